import PyProof.Rows.All
import Wide.All
import OpenK.AllK
import Wide.FinOn
import Lean
import PyProof.EqAt
import PyProof.EqKinds
import PyProof.TupleCall
import PySem.Challenge.RW_shellstair_k12_whole_in_pieces
-- CHANGE: your row's module here, as the last of these rows
set_option Elab.async false
set_option linter.all false
set_option maxRecDepth 100000
/-! THE HAND LAYER, for ints, bools, texts, own classes, LISTS and tuples (index, slices, in, append, pop ..), calls, loops. Paste it whole ahead of your own text; what your proof does not reach may be deleted. -/
namespace L2
open PySem PySem.Spec PyProof.Rows

/-- a key: an int or a str -/
abbrev Key := Sum Int Str
def keyIs : Key → Value → Bool
  | .inl k, v => Value.isInt k v
  | .inr x, v => Value.isStrOf x v
def keyH (w : World) : Key → Int
  | .inl k => hashInt k
  | .inr x => hashStr w x
theorem keyIs_shape : ∀ {k : Key} {v : Value}, keyIs k v = true → (∃ i t, k = Sum.inl i ∧ v = Value.int i t) ∨ (∃ x t, k = Sum.inr x ∧ v = Value.str x t)
  | .inl i, v, h => by
    obtain ⟨t, e⟩ := Value.isInt_shape (k := i) (v := v) h
    exact .inl ⟨i, t, rfl, e⟩
  | .inr x, v, h => by
    obtain ⟨t, e⟩ := Value.isStrOf_shape (x := x) (v := v) h
    exact .inr ⟨x, t, rfl, e⟩
theorem keyIs_int (i : Int) (t : Tok) : keyIs (.inl i) (.int i t) = true := by simp [keyIs, Value.isInt]
theorem keyIs_str (x : Str) (t : Tok) : keyIs (.inr x) (.str x t) = true := by simp [keyIs, Value.isStrOf]
theorem key_ll (a b : Int) : decide ((Sum.inl a : Key) = Sum.inl b) = (a == b) := by
  by_cases e : a = b
  · subst e; simp
  · have h : ¬ (Sum.inl a : Key) = Sum.inl b := fun q => e (Sum.inl.inj q)
    rw [decide_eq_false h]
    exact (beq_eq_false_iff_ne.mpr e).symm
theorem key_rr (a b : Str) : decide ((Sum.inr a : Key) = Sum.inr b) = decide (a = b) := by
  by_cases e : a = b
  · subst e; simp
  · have h : ¬ (Sum.inr a : Key) = Sum.inr b := fun q => e (Sum.inr.inj q)
    rw [decide_eq_false h, decide_eq_false e]
theorem key_lr (a : Int) (b : Str) : decide ((Sum.inl a : Key) = Sum.inr b) = false := decide_eq_false (fun q => nomatch q)
theorem key_rl (a : Str) (b : Int) : decide ((Sum.inr a : Key) = Sum.inl b) = false := decide_eq_false (fun q => nomatch q)

def mixKind (prog : Program) (w : World) : PySem.KeyKind prog w Key where
  is := keyIs
  hash := keyH w
  inj := fun v a b ha hb => by
    rcases keyIs_shape ha with ⟨i, t, rfl, rfl⟩ | ⟨x, t, rfl, rfl⟩
    · rcases keyIs_shape hb with ⟨j, u, rfl, e⟩ | ⟨y, u, rfl, e⟩
      · injection e with e1 _; rw [e1]
      · exact nomatch e
    · rcases keyIs_shape hb with ⟨j, u, rfl, e⟩ | ⟨y, u, rfl, e⟩
      · exact nomatch e
      · injection e with e1 _; rw [e1]
  byValue := fun k v h => by
    rcases keyIs_shape h with ⟨i, t, rfl, rfl⟩ | ⟨x, t, rfl, rfl⟩ <;> rfl
  pyHash := fun hv h => by
    rcases keyIs_shape hv with ⟨i, t, rfl, rfl⟩ | ⟨x, t, rfl, rfl⟩
    · exact wpAny_pyHash_int h
    · exact wpAny_pyHash_str h
  eqBool := fun hu hv h => by
    rcases keyIs_shape hu with ⟨i, t, rfl, rfl⟩ | ⟨x, t, rfl, rfl⟩
    · rcases keyIs_shape hv with ⟨j, u, rfl, rfl⟩ | ⟨y, u, rfl, rfl⟩
      · rw [key_ll] at h; exact wpAny_eqBool_int h
      · rw [key_lr] at h; exact SeqAt.EqAt.int_str i t y u _ _ _ _ h
    · rcases keyIs_shape hv with ⟨j, u, rfl, rfl⟩ | ⟨y, u, rfl, rfl⟩
      · rw [key_rl] at h; exact SeqAt.EqAt.str_int x t j u _ _ _ _ h
      · rw [key_rr] at h; exact wpAny_eqBool_str h
  «strs» := fun k x t v h => by
    rcases keyIs_shape h with ⟨i, u, rfl, e⟩ | ⟨y, u, rfl, e⟩
    · exact nomatch e
    · injection e with e1 _
      subst e1
      cases v <;> rfl

theorem mixKind_is (prog : Program) (w : World) (k : Key) (v : Value) : (mixKind prog w).is k v = keyIs k v := rfl
theorem mixKind_int (prog : Program) (w : World) (i : Int) (t : Tok) : (mixKind prog w).is (.inl i) (.int i t) = true := keyIs_int i t
theorem mixKind_str (prog : Program) (w : World) (x : Str) (t : Tok) : (mixKind prog w).is (.inr x) (.str x t) = true := keyIs_str x t
end L2

namespace L2
open PySem PySem.Spec PyProof.Rows

/-- a value, without the heap -/
inductive V where
  | non | bl (b : Bool) | int (i : Int) | str (x : Str) | byt (b : Array UInt8) | flt (b : UInt64) | ref (a : Addr) | ty (n : String)
  deriving DecidableEq

def RelV : V → Value → Prop
  | .non, u => u = Value.none
  | .bl b, u => u = Value.bool b
  | .int i, u => ∃ t, u = Value.int i t
  | .str x, u => ∃ t, u = Value.str x t
  | .byt b, u => ∃ t, u = Value.bytes b t
  | .flt b, u => ∃ t, u = Value.float b t
  | .ref a, u => u = Value.ref a
  | .ty n, u => u = Value.type n

abbrev Vals : List V → List Value → Prop := Paired RelV
theorem Vals.length {xs : List V} {us : List Value} (r : Vals xs us) : xs.length = us.length := Paired.length r
theorem Vals.get : ∀ {xs : List V} {us : List Value} {i : Nat} {x : V}, Vals xs us → xs[i]? = some x → ∃ u, us[i]? = some u ∧ RelV x u
  | _, _, _, _, .nil, e => by simp at e
  | _, _, 0, _, .cons r _, e => by simp at e; subst e; exact ⟨_, rfl, r⟩
  | _, _, i + 1, x, .cons _ t, e => by
    obtain ⟨u, h1, h2⟩ := Vals.get (i := i) (x := x) t (by simpa using e)
    exact ⟨u, by simpa using h1, h2⟩
theorem Vals.set {x : V} {u : Value} (r : RelV x u) : ∀ {xs : List V} {us : List Value} (i : Nat), Vals xs us → Vals (xs.set i x) (us.set i u)
  | _, _, _, .nil => .nil
  | _, _, 0, .cons _ t => .cons r t
  | _, _, i + 1, .cons q t => .cons q (Vals.set r i t)
theorem Vals.append : ∀ {xs ys : List V} {us ws : List Value}, Vals xs us → Vals ys ws → Vals (xs ++ ys) (us ++ ws)
  | _, _, _, _, .nil, s => s
  | _, _, _, _, .cons r t, s => .cons r (Vals.append t s)
theorem Vals.take : ∀ {xs : List V} {us : List Value} (n : Nat), Vals xs us → Vals (xs.take n) (us.take n)
  | _, _, 0, _ => .nil
  | _, _, _ + 1, .nil => .nil
  | _, _, n + 1, .cons r t => .cons r (Vals.take n t)
theorem Vals.drop : ∀ {xs : List V} {us : List Value} (n : Nat), Vals xs us → Vals (xs.drop n) (us.drop n)
  | _, _, 0, r => r
  | _, _, _ + 1, .nil => .nil
  | _, _, n + 1, .cons _ t => Vals.drop n t
theorem Vals.none_of : ∀ {xs : List V} {us : List Value} {i : Nat}, Vals xs us → xs[i]? = none → us[i]? = none := fun {xs us i} r e => by
  have h1 := r.length
  have h2 : xs.length ≤ i := List.getElem?_eq_none_iff.mp e
  exact List.getElem?_eq_none_iff.mpr (by omega)

def RelO : Option V → Option Value → Prop
  | some v, some u => RelV v u
  | none, none => True
  | _, _ => False
def KV {κ : Type} : List (κ × V) → List (κ × Value) → Prop := Paired fun (p : κ × V) (q : κ × Value) => p.1 = q.1 ∧ RelV p.2 q.2

/-- a key of a dict (00_mix): an int or a text -/
def kV : Key → V
  | .inl i => .int i
  | .inr x => .str x

/-- what stands at a tracked address -/
inductive HO where
  /-- a list -/
  | lst (xs : List V)
  /-- a tuple (never changes) -/
  | tup (xs : List V)
  /-- a dict whose keys are ints and texts; one whose keys are tuples of ints and texts (the empty one is both) -/
  | dK (kvs : List (Key × V)) | dT (kvs : List (List Key × V))
  /-- a set of ints: its members, its size -/
  | set (S : Int → Bool) (n : Nat)
  /-- an instance of the class at C, its dict at dx, its attributes -/
  | ins (C dx : Addr) (fs : List (Str × V))
  /-- the dict of the instance at x -/
  | own (x : Addr)
  /-- the dict of an exception -/
  | xd (fs : List (Str × V))
  /-- a bound method, f of x -/
  | met (f x : Addr)
  /-- a range object lo, lo + 1, .. below hi -/
  | rng (lo hi : Int)
  /-- a thing that is known to the object (the script; a dict while a loop walks it): read, never written while it is so -/
  | frz (o : Obj) (u : HO)
  /-- a code object's table -/
  | tbl (ps : Array Value)
  /-- any other thing, by what is true of its one object (a def of one's own: SetO a S n := HO.ext fun h => ..) -/
  | ext (φ : Heap → Prop)

abbrev Hp := Addr → Option HO
def upd (H : Hp) (a : Addr) (o : HO) : Hp := fun b => if b = a then some o else H b
theorem upd_same {H : Hp} {a : Addr} {o : HO} : upd H a o a = some o := by unfold upd; rw [if_pos rfl]
theorem upd_ne {H : Hp} {a b : Addr} {o : HO} (h : b ≠ a) : upd H a o b = H b := by unfold upd; rw [if_neg h]
theorem upd_upd {H : Hp} {a : Addr} {o u : HO} : upd (upd H a o) a u = upd H a u := by
  funext b; unfold upd; split <;> rfl
/-- two objects of different content stand apart -/
theorem ne_of {H : Hp} {a b : Addr} {o u : HO} (h : H a = some o) (h' : H b = some u) (d : o ≠ u) : a ≠ b := by
  intro e; subst e; rw [h] at h'; exact d (Option.some.inj h')
theorem ne_of_none {H : Hp} {a b : Addr} {o : HO} (h : H a = some o) (h' : H b = none) : a ≠ b := by
  intro e; subst e; rw [h] at h'; cases h'

section
variable (P : Program) (w : World)
def ObjOk (H : Hp) (h : Heap) (a : Addr) : HO → Prop
  | .lst xs => xs.length ≤ sizeLine ∧ ∃ (its : List Value) (n : Nat), Vals xs its ∧ h.get? a = some { cls := .type "list", data := .seq its.toArray n }
  | .tup xs => xs.length ≤ sizeLine ∧ ∃ its : List Value, Vals xs its ∧ IsTup h a its.toArray
  | .dK kvs => kvs.length ≤ sizeLine ∧ (a == sysModules) = false ∧ ∃ vs, KV kvs vs ∧ h.DictOf (mixKind P w) a vs
  | .dT kvs => kvs.length ≤ sizeLine ∧ (a == sysModules) = false ∧ ∃ xs : List (List Key × Addr × Value),
      Paired (fun (p : List Key × V) (q : List Key × Addr × Value) => p.1 = q.1 ∧ H q.2.1 = some (.tup (p.1.map kV)) ∧ RelV p.2 q.2.2) kvs xs ∧
      ∃ o es ep, h.get? a = some o ∧ o.ExactDict ∧ o.data = .dict es ep ∧ es.toList = xs.map (entryOfKey (tupleKind (mixKind P w))) ∧ (xs.map (·.1)).Nodup
  | .set S n => h.SetOf (intKind P w) a S n
  | .ins C dx fs => H dx = some (.own a) ∧ fs.length ≤ 1000 ∧ dx ≠ a ∧ h.get? a = some (PySem.W.instObj C dx) ∧
      ∃ mA, h.Ns1 dx mA ∧ (∀ f, RelO (fs.lookup f) (mA f)) ∧ PySem.Within mA (fs.map (·.1))
  | .own _ => ∃ o, h.get? a = some o
  | .xd fs => ∃ mA, h.Ns1 a mA ∧ ∀ f, RelO (fs.lookup f) (mA f)
  | .rng lo hi => ∃ t u v, h.get? a = some { cls := .type "range", data := .fields #[.int lo t, .int hi u, .int 1 v] }
  | .frz o u => h.get? a = some o ∧ ObjOk H h a u
  | .tbl ps => h.get? a = some { cls := .none, data := .fields ps }
  | .met f x => h.get? a = some (PySem.W.methodObj (.ref f) (.ref x))
  | .ext φ => φ h ∧ (∃ o, h.get? a = some o) ∧ ∀ h1 h2 : Heap, φ h1 → (∀ o, h1.get? a = some o → h2.get? a = some o) → φ h2
/-- the abstract heap is held -/
def HOk (H : Hp) (h : Heap) : Prop := ∀ a o, H a = some o → ObjOk P w H h a o
end

section
variable {P : Program} {w : World} {H H' : Hp} {h h' : Heap} {a : Addr} {o : HO}
theorem ObjOk.lt (x : ObjOk P w H h a o) : a < h.objs.size := by
  cases o with
  | lst xs => obtain ⟨_, _, _, _, e⟩ := x; exact Heap.lt_size e
  | tup xs => obtain ⟨_, _, _, p⟩ := x; exact p.lt
  | dK kvs => obtain ⟨_, _, _, _, o, _, _, e, _⟩ := x; exact Heap.lt_size e
  | dT kvs => obtain ⟨_, _, _, _, o, _, _, e, _⟩ := x; exact Heap.lt_size e
  | set S n => obtain ⟨o, _, _, _, e, _⟩ := x; exact Heap.lt_size e
  | ins C dx fs => obtain ⟨_, _, _, e, _⟩ := x; exact Heap.lt_size e
  | own y => obtain ⟨_, e⟩ := x; exact Heap.lt_size e
  | xd fs => obtain ⟨_, ⟨_, _, _, e, _⟩, _⟩ := x; exact Heap.lt_size e
  | rng lo hi => obtain ⟨_, _, _, e⟩ := x; exact Heap.lt_size e
  | frz ob u => obtain ⟨e, _⟩ := x; exact Heap.lt_size e
  | tbl ps => exact Heap.lt_size (show h.get? a = some _ from x)
  | met f y => exact Heap.lt_size (show h.get? a = some _ from x)
  | ext φ => obtain ⟨_, ⟨_, e⟩, _⟩ := x; exact Heap.lt_size e
theorem Paired.mapP {α β : Type} {F G : α → β → Prop} : ∀ {l₁ : List α} {l₂ : List β}, Paired F l₁ l₂ → (∀ a b, F a b → G a b) → Paired G l₁ l₂
  | _, _, .nil, _ => .nil
  | _, _, .cons r t, f => .cons (f _ _ r) (Paired.mapP t f)
theorem Paired.imp' {α β : Type} {F G : α → β → Prop} (f : ∀ a b, F a b → G a b) {l₁ : List α} {l₂ : List β} (r : Paired F l₁ l₂) : Paired G l₁ l₂ := Paired.mapP r f
/-- what an object's description leans on: its own object, its own dict, the tuples -/
theorem ObjOk.stay (x : ObjOk P w H h a o) (k : ∀ b u, (b = a ∨ H b = some (.own a)) → h.get? b = some u → h'.get? b = some u)
    (ho : ∀ b, H b = some (.own a) → H' b = some (.own a)) (ht : ∀ b xs, H b = some (.tup xs) → H' b = some (.tup xs)) : ObjOk P w H' h' a o := by
  induction o with
  | lst xs => obtain ⟨z, its, n, r, e⟩ := x; exact ⟨z, its, n, r, k _ _ (.inl rfl) e⟩
  | tup xs => obtain ⟨z, its, r, ob, e, c⟩ := x; exact ⟨z, its, r, ob, k _ _ (.inl rfl) e, c⟩
  | dK kvs => obtain ⟨z, y, vs, r, ob, es, ep, e, c⟩ := x; exact ⟨z, y, vs, r, ob, es, ep, k _ _ (.inl rfl) e, c⟩
  | dT kvs =>
    obtain ⟨z, y, xs, r, ob, es, ep, e, c⟩ := x
    exact ⟨z, y, xs, Paired.mapP r fun p q z => ⟨z.1, ht _ _ z.2.1, z.2.2⟩, ob, es, ep, k _ _ (.inl rfl) e, c⟩
  | set S n => obtain ⟨ob, es, ep, t, e, c⟩ := x; exact ⟨ob, es, ep, t, k _ _ (.inl rfl) e, c⟩
  | ins C dx fs =>
    obtain ⟨d, z, ne, e, mA, ⟨od, es, ep, e2, c⟩, r⟩ := x
    exact ⟨ho _ d, z, ne, k _ _ (.inl rfl) e, mA, ⟨od, es, ep, k _ _ (.inr d) e2, c⟩, r⟩
  | own y => obtain ⟨ob, e⟩ := x; exact ⟨ob, k _ _ (.inl rfl) e⟩
  | xd fs => obtain ⟨mA, ⟨od, es, ep, e, c⟩, r⟩ := x; exact ⟨mA, ⟨od, es, ep, k _ _ (.inl rfl) e, c⟩, r⟩
  | rng lo hi => obtain ⟨t, u, v, e⟩ := x; exact ⟨t, u, v, k _ _ (.inl rfl) e⟩
  | frz ob u ih => obtain ⟨e, q⟩ := x; exact ⟨k _ _ (.inl rfl) e, ih q⟩
  | tbl ps =>
    have e : h.get? a = some { cls := .none, data := .fields ps } := x
    show h'.get? a = some { cls := .none, data := .fields ps }
    exact k a _ (.inl rfl) e
  | met f y =>
    have e : h.get? a = some (PySem.W.methodObj (.ref f) (.ref y)) := x
    show h'.get? a = some (PySem.W.methodObj (.ref f) (.ref y))
    exact k a _ (.inl rfl) e
  | ext φ => obtain ⟨p, ⟨o, e⟩, st⟩ := x; exact ⟨st _ _ p fun o q => k _ _ (.inl rfl) q, ⟨o, k _ _ (.inl rfl) e⟩, st⟩
theorem HOk.lt (x : HOk P w H h) (e : H a = some o) : a < h.objs.size := (x a o e).lt
theorem HOk.fresh (x : HOk P w H h) (e : h.objs.size ≤ a) : H a = none := by
  cases q : H a with
  | none => rfl
  | some u => exact absurd (Nat.lt_of_lt_of_le (x.lt q) e) (Nat.lt_irrefl _)
/-- every object of the heap is kept -/
theorem HOk.kept (x : HOk P w H h) (k : ∀ b u, h.get? b = some u → h'.get? b = some u) : HOk P w H h' := fun a o e =>
  (x a o e).stay (fun b u _ q => k b u q) (fun _ q => q) fun _ _ q => q
/-- a new object is laid and tracked -/
theorem HOk.laid (x : HOk P w H h) (k : ∀ b u, h.get? b = some u → h'.get? b = some u) (hp : h.objs.size ≤ a) (new : ObjOk P w (upd H a o) h' a o) : HOk P w (upd H a o) h' := fun b u e => by
  have hn := x.fresh hp
  by_cases hb : b = a
  · subst hb; rw [upd_same] at e; cases e; exact new
  · rw [upd_ne hb] at e
    exact (x b u e).stay (fun c v _ q => k c v q) (fun c q => by rw [upd_ne (ne_of_none q hn)]; exact q) fun c xs q => by rw [upd_ne (ne_of_none q hn)]; exact q
end

/-- what may be read as u: it is u, or a known u -/
def Rd (H : Hp) (a : Addr) (u : HO) : Prop := H a = some u ∨ ∃ o, H a = some (.frz o u)
theorem Rd.of {H : Hp} {a : Addr} {u : HO} (h : H a = some u) : Rd H a u := .inl h
theorem Rd.ok {P : Program} {w : World} {H : Hp} {h : Heap} {a : Addr} {u : HO} (r : Rd H a u) (x : HOk P w H h) : ObjOk P w H h a u := by
  rcases r with r | ⟨o, r⟩
  · exact x a u r
  · obtain ⟨_, q⟩ := x a _ r
    exact q
/-- what may be written -/
def Mut : Option HO → Prop
  | some (.lst _) => True
  | some (.dK _) => True
  | some (.dT _) => True
  | some (.set _ _) => True
  | some (.ins _ _ _) => True
  | some (.ext _) => True
  | _ => False
section
variable {P : Program} {w : World} {H : Hp} {h h' : Heap} {x e : Addr} {o' : HO}
/-- the object at e is changed: x itself, or the dict of the instance x -/
theorem HOk.write (ok : HOk P w H h) (mu : Mut (H x)) (he : e = x ∨ H e = some (.own x)) (k : ∀ b u, b ≠ e → h.get? b = some u → h'.get? b = some u) (heo : ∃ u, h'.get? e = some u)
    (new : ObjOk P w (upd H x o') h' x o') : HOk P w (upd H x o') h' := fun b u q => by
  have nown : ∀ c y, H c = some (.own y) → c ≠ x := fun c y r z => by subst z; rw [r] at mu; exact mu
  have ntup : ∀ c xs, H c = some (.tup xs) → c ≠ x := fun c xs r z => by subst z; rw [r] at mu; exact mu
  by_cases hb : b = x
  · subst hb; rw [upd_same] at q; cases q; exact new
  · rw [upd_ne hb] at q
    by_cases hbe : b = e
    · have q' : H b = some (.own x) := by
        rcases he with z | z
        · exact absurd (hbe.trans z) hb
        · rw [hbe]; exact z
      rw [q] at q'; cases q'
      obtain ⟨v, hv⟩ := heo
      exact ⟨v, by rw [hbe]; exact hv⟩
    · refine (ok b u q).stay (fun c v hc r => k c v ?_ r) (fun c r => by rw [upd_ne (nown c b r)]; exact r) fun c xs r => by rw [upd_ne (ntup c xs r)]; exact r
      rcases hc with rfl | hc
      · exact hbe
      · rintro rfl
        rcases he with z | z
        · exact nown c b hc z
        · rw [hc] at z; cases z; exact hb rfl
end

/-! ### kept unless tracked; of the frames at fs (the callers') the slots may change (an exception that passes writes there); of the records at ex (iterators) nothing is said -/
structure Un (fs ex : List Addr) (H H' : Hp) (h h' : Heap) : Prop where
  keep : ∀ b o, h.get? b = some o → H b = none → b ∉ fs → b ∉ ex → h'.get? b = some o
  slot : ∀ b o, h.get? b = some o → H b = none → b ∈ fs → b ∉ ex → ∃ sl, h'.get? b = some { o with slots := sl }
  free : ∀ b o, h.get? b = some o → H b = none → b ∉ ex → H' b = none
  there : ∀ b o, h.get? b = some o → b ∉ ex → ∃ o', h'.get? b = some o'
  tups : ∀ b xs, H b = some (.tup xs) → H' b = some (.tup xs)
  frzs : ∀ b o u, H b = some (.frz o u) → H' b = some (.frz o u)
  tbls : ∀ b ps, H b = some (.tbl ps) → ∃ more, H' b = some (.tbl (ps ++ more))
section
variable {fs fs' ex ex' : List Addr} {H H1 H2 : Hp} {h h1 h2 h' : Heap} {a x e : Addr} {o : HO}
theorem Un.any (u : Un fs ex H H1 h h1) {b : Addr} {ob : Obj} (q : h.get? b = some ob) (n : H b = none) (hx : b ∉ ex) : ∃ sl, h1.get? b = some { ob with slots := sl } := by
  by_cases hb : b ∈ fs
  · exact u.slot b ob q n hb hx
  · exact ⟨ob.slots, u.keep b ob q n hb hx⟩
theorem Un.trans (a : Un fs ex H H1 h h1) (b : Un fs ex H1 H2 h1 h2) : Un fs ex H H2 h h2 where
  keep := fun c ob q n hc hx => b.keep c ob (a.keep c ob q n hc hx) (a.free c ob q n hx) hc hx
  slot := fun c ob q n hc hx => by
    obtain ⟨sl, e1⟩ := a.slot c ob q n hc hx
    obtain ⟨sl', e2⟩ := b.slot c _ e1 (a.free c ob q n hx) hc hx
    exact ⟨sl', e2⟩
  free := fun c ob q n hx => by
    obtain ⟨o', e1⟩ := a.there c ob q hx
    exact b.free c o' e1 (a.free c ob q n hx) hx
  there := fun c ob q hx => by
    obtain ⟨o', e1⟩ := a.there c ob q hx
    exact b.there c o' e1 hx
  tups := fun c xs q => b.tups c xs (a.tups c xs q)
  frzs := fun c ob xs q => b.frzs c ob xs (a.frzs c ob xs q)
  tbls := fun c ps q => by
    obtain ⟨m1, e1⟩ := a.tbls c ps q
    obtain ⟨m2, e2⟩ := b.tbls c _ e1
    exact ⟨m1 ++ m2, by rw [e2, Array.append_assoc]⟩
theorem Un.kept (k : ∀ b u, h.get? b = some u → h'.get? b = some u) : Un fs ex H H h h' :=
  ⟨fun b ob q _ _ _ => k b ob q, fun b ob q _ _ _ => ⟨ob.slots, k b ob q⟩, fun _ _ _ n _ => n, fun b ob q _ => ⟨ob, k b ob q⟩, fun _ _ q => q, fun _ _ _ q => q, fun _ ps q => ⟨#[], by rw [q]; simp⟩⟩
theorem Un.refl : Un fs ex H H h h := Un.kept fun _ _ q => q
theorem Un.laid (k : ∀ b u, h.get? b = some u → h'.get? b = some u) (hp : h.objs.size ≤ a) (hn : H a = none) : Un fs ex H (upd H a o) h h' where
  keep := fun b u q _ _ _ => k b u q
  slot := fun b u q _ _ _ => ⟨u.slots, k b u q⟩
  free := fun b u q n _ => by rw [upd_ne (Nat.ne_of_lt (Nat.lt_of_lt_of_le (Heap.lt_size q) hp))]; exact n
  there := fun b u q _ => ⟨u, k b u q⟩
  tups := fun b xs q => by rw [upd_ne (ne_of_none q hn)]; exact q
  frzs := fun b u xs q => by rw [upd_ne (ne_of_none q hn)]; exact q
  tbls := fun b ps q => ⟨#[], by rw [upd_ne (ne_of_none q hn), q]; simp⟩
theorem Un.write (mu : Mut (H x)) (he : e = x ∨ H e = some (.own x)) (k : ∀ b u, b ≠ e → h.get? b = some u → h'.get? b = some u) (heo : ∃ u, h'.get? e = some u) : Un fs ex H (upd H x o) h h' := by
  have hx : ∀ b, H b = none → b ≠ x := fun b n z => by subst z; rw [n] at mu; exact mu
  have hb : ∀ b, H b = none → b ≠ e := fun b n z => by
    subst z
    rcases he with r | r
    · exact hx b n r
    · rw [n] at r; cases r
  have hm : ∀ b u, H b = some u → ¬ Mut (some u) → b ≠ x := fun b u q nm z => by subst z; rw [q] at mu; exact nm mu
  refine ⟨fun b u q n _ _ => k b u (hb b n) q, fun b u q n _ _ => ⟨u.slots, k b u (hb b n) q⟩, fun b u q n _ => by rw [upd_ne (hx b n)]; exact n, fun b u q _ => ?_,
    fun b xs q => by rw [upd_ne (hm b _ q fun z => z)]; exact q, fun b u xs q => by rw [upd_ne (hm b _ q fun z => z)]; exact q, fun b ps q => ⟨#[], by rw [upd_ne (hm b _ q fun z => z), q]; simp⟩⟩
  by_cases hbe : b = e
  · subst hbe; exact heo
  · exact ⟨u, k b u hbe q⟩
theorem Un.mono (u : Un fs ex H H1 h h1) (hs : ∀ b ∈ fs, b ∈ fs') (hx : ∀ b ∈ ex, b ∈ ex') : Un fs' ex' H H1 h h1 :=
  ⟨fun b ob q n hb he => u.keep b ob q n (fun z => hb (hs b z)) fun z => he (hx b z), fun _ _ q n _ he => u.any q n fun z => he (hx _ z), fun b ob q n he => u.free b ob q n fun z => he (hx b z), fun b ob q he => u.there b ob q fun z => he (hx b z), u.tups, u.frzs, u.tbls⟩
end

/-! ### the heap without what is tracked -/
def trk (h : Heap) (H : Hp) : List Addr := (List.range h.objs.size).filter fun a => (H a).isSome
def hidT (h : Heap) (H : Hp) : Heap := PySem.W.hideAll h (trk h H)
theorem hidT_size (h : Heap) (H : Hp) : (hidT h H).objs.size = h.objs.size := PySem.W.hideAll_size _ _
theorem hidT_get {h : Heap} {H : Hp} {b : Addr} {o : Obj} (e : h.get? b = some o) (n : H b = none) : (hidT h H).get? b = some o :=
  PySem.W.hideAll_get _ e fun hm => by
    have q : (H b).isSome = true := (List.mem_filter.mp hm).2
    rw [n] at q; simp at q
theorem of_hidT {h : Heap} {H : Hp} {b : Addr} {o : Obj} (e : (hidT h H).get? b = some o) : h.get? b = some o ∧ H b = none := by
  have e' : h.get? b = some o := PySem.W.of_hideAll (trk h H) e
  refine ⟨e', ?_⟩
  cases q : H b with
  | none => rfl
  | some x =>
    have hm : b ∈ trk h H := List.mem_filter.mpr ⟨List.mem_range.mpr (Heap.lt_size e'), by simp [q]⟩
    have z : (hidT h H).get? b = none := PySem.W.hideAll_none (trk h H) hm
    rw [z] at e; cases e

/-! ### OpenK's ledger, filled with every new object but one -/
def allNews (g h : Heap) (L : Addr) : List (Addr × Obj) := (List.range h.objs.size).filterMap fun a => if a = L ∨ (g.get? a).isSome = true then none else (h.get? a).map fun o => (a, o)
theorem mem_allNews {g h : Heap} {L a : Addr} {o : Obj} (h1 : a ≠ L) (h2 : g.get? a = none) (h3 : h.get? a = some o) : (a, o) ∈ allNews g h L :=
  List.mem_filterMap.mpr ⟨a, List.mem_range.mpr (Heap.lt_size h3), by simp [h1, h2, h3]⟩
theorem of_mem_allNews {g h : Heap} {L : Addr} {p : Addr × Obj} (hp : p ∈ allNews g h L) : p.1 ≠ L ∧ g.get? p.1 = none ∧ h.get? p.1 = some p.2 := by
  obtain ⟨b, _, e⟩ := List.mem_filterMap.mp hp
  split at e
  · cases e
  · rename_i hn
    cases q : h.get? b with
    | none => rw [q] at e; simp at e
    | some u =>
      rw [q] at e
      simp only [Option.map_some, Option.some.injEq] at e
      subst e
      refine ⟨fun z => hn (.inl z), ?_, q⟩
      show g.get? b = none
      cases r : g.get? b with
      | none => rfl
      | some v => exact (hn (.inr (by simp [r]))).elim
def rest (g h : Heap) (L d : Addr) : List (Addr × Obj) := (allNews g h L).filter fun p => decide (p.1 ≠ d)
theorem rest_ne {g h : Heap} {L d : Addr} : ∀ p ∈ rest g h L d, p.1 ≠ d := fun p hp => of_decide_eq_true (List.mem_filter.mp hp).2
theorem mem_rest {g h : Heap} {L d a : Addr} {o : Obj} (h1 : a ≠ L) (h2 : g.get? a = none) (h3 : h.get? a = some o) (h4 : a ≠ d) : (a, o) ∈ rest g h L d :=
  List.mem_filter.mpr ⟨mem_allNews h1 h2 h3, decide_eq_true h4⟩
theorem news_all {g h : Heap} {L : Addr} : News g L h (allNews g h L) := fun p hp => let ⟨a, b, c⟩ := of_mem_allNews hp; ⟨c, a, b⟩
theorem news_at {g h : Heap} {L d : Addr} {o : Obj} (h1 : d ≠ L) (h2 : g.get? d = none) (h3 : h.get? d = some o) : News g L h ((d, o) :: rest g h L d) := fun p hp => by
  rcases List.mem_cons.mp hp with rfl | hp
  · exact ⟨h3, h1, h2⟩
  · exact news_all p (List.mem_filter.mp hp).1
/-- behind a rule that changed d alone: all else but the frame is kept -/
theorem kept_of_news {g h h' : Heap} {L d : Addr} {m : Str → Option Value} (k : ∀ b o, g.get? b = some o → h.get? b = some o) (F : Fr g L h' m) (N : News g L h' (rest g h L d)) :
    ∀ b o, b ≠ L → b ≠ d → h.get? b = some o → h'.get? b = some o := fun b o h1 h2 e => by
  cases q : g.get? b with
  | some u =>
    have := k b u q
    rw [e] at this; cases this
    exact F.keep b _ q
  | none => exact (N (b, o) (mem_rest h1 q e h2)).1
end L2

namespace L2
open PySem PySem.Spec PyProof.Rows

/-- the module's facts, over the base: the heap at the law's entry without what is tracked there -/
structure Mod (K : PySem.W.Frag) (mg : Str → Option Value) (base : Heap) : Prop where
  kin : K.In base
  glob : base.Ns mainGlobals mg
  blt : ∃ mb, base.Ns builtinsNs mb ∧ ∀ x : Str, x ≠ "__name__" → mb x = bootBuiltins x
  nolimit : base.NoLimit

/-- the context: a def's body (or a comprehension's block) running. base: fixed through the whole law; s₀, H₀: the entry; outer: the frames whose slots others may change (a def's callers); stack: all frames that run;
   ex: iterators that were made ahead of the entry and are walked here (a comprehension's); fn: the names whose cells were made at the entry (a def: all; a comprehension's block: its own); calm: not within an except suite; pn: pins that every state bears; xe: what is wanted of an exception that leaves the code -/
structure Cx where
  prog : Program
  w : World
  K : PySem.W.Frag
  mg : Str → Option Value
  base : Heap
  A : Around
  N : List Str
  s₀ : Shared
  H₀ : Hp
  env : Env
  outer : List Env
  stack : List Env
  ex : List Addr
  fn : Str → Bool
  calm : Bool
  pn : List (Addr × Obj)
  xe : Value → Shared → Prop
/-- the callers' frames -/
def frs (l : List Env) : List Addr := l.filterMap (·.frame)
abbrev Cx.fs (X : Cx) : List Addr := frs X.outer

def Vis (sc : Scope) (x : Str) : Prop := sc.names.lookup x = some .local ∨ sc.names.lookup x = some .cell ∨ sc.names.lookup x = some .free
def Loc (sc : Scope) (x : Str) : Prop := sc.names.lookup x = some .local ∨ sc.names.lookup x = some .cell
def Look (env : Env) (h : Heap) (m : Str → Option Value) (x : Str) (u : Value) : Prop :=
  (env.kindOf x = some .local ∧ m x = some u) ∨ ((env.kindOf x = some .cell ∨ env.kindOf x = some .free) ∧ ∃ c, env.cells.lookup x = some c ∧ h.IsCell c (some u))

structure Cx.Ok (X : Cx) : Prop where
  mod : Mod X.K X.mg X.base
  kind : X.env.scope.kind = .function
  glob : X.env.globals = mainGlobals
  blt : X.env.builtins = builtinsNs
  above : X.s₀.heap.objs.size ≤ X.env.locals
  inj : ∀ x y c, X.env.cells.lookup x = some c → X.env.cells.lookup y = some c → x = y
  has : ∀ x, (X.env.kindOf x = some .cell ∨ X.env.kindOf x = some .free) → ∃ c, X.env.cells.lookup x = some c
  cab : ∀ x c, X.fn x = true → X.env.cells.lookup x = some c → X.s₀.heap.objs.size ≤ c
  hd : X.calm = true → X.A.handled = none
  frames : X.A.frames = some X.stack
  stk : X.stack = X.outer ∨ (X.stack = X.env :: X.outer ∧ X.env.frame = some X.env.locals)
  exf : ∀ b ∈ X.ex, b ≠ X.env.locals ∧ ∀ x c, X.env.cells.lookup x = some c → c ≠ b
  bs : ∀ b o, X.base.get? b = some o → X.s₀.heap.get? b = some o ∧ X.H₀ b = none
  bsz : X.base.objs.size ≤ X.s₀.heap.objs.size
  noex : ∀ b o, X.base.get? b = some o → b ∉ X.ex
  exfs : ∀ b ∈ X.ex, b ∉ X.fs
  funs : X.s₀.heap.FunFrames X.base X.outer
  frf : ∀ b ∈ X.fs, X.H₀ b = none

structure Inv (X : Cx) (pins : List (Addr × Obj)) (σ : List (Option V)) (H : Hp) (s : Shared) : Prop where
  ok : X.Ok
  os : s.os = X.s₀.os
  bare : AllBare s.gens
  base : Un X.fs X.ex X.H₀ H X.s₀.heap s.heap
  loc : ∃ m, s.heap.Ns X.env.locals m ∧ ∀ (i : Nat) (x : Str) (v : V), X.N[i]? = some x → σ[i]? = some (some v) → Vis X.env.scope x → ∃ u, RelV v u ∧ Look X.env s.heap m x u
  cell : ∀ x c, X.env.cells.lookup x = some c → ∃ v, s.heap.IsCell c v
  free : H X.env.locals = none
  freeC : ∀ x c, X.env.cells.lookup x = some c → H c = none
  pin : ∀ p ∈ X.pn ++ pins, s.heap.get? p.1 = some p.2 ∧ H p.1 = none ∧ p.1 ≠ X.env.locals ∧ p.1 ∉ X.fs ∧ ∀ v, p.2.data ≠ .cell v
  hok : HOk X.prog X.w H s.heap
  len : σ.length = X.N.length

section
variable {X : Cx} {pins : List (Addr × Obj)} {σ : List (Option V)} {H H' : Hp} {s : Shared} {h' : Heap}

theorem Cx.Ok.nofr (ok : X.Ok) {b : Addr} {o : Obj} (e : X.base.get? b = some o) : b ∉ X.fs := fun hb => by
  have := (ok.funs.mem hb).1
  rw [e] at this; cases this
theorem Inv.bs (I : Inv X pins σ H s) : ∀ b o, X.base.get? b = some o → s.heap.get? b = some o ∧ H b = none := fun b o e =>
  ⟨I.base.keep b o (I.ok.bs b o e).1 (I.ok.bs b o e).2 (I.ok.nofr e) (I.ok.noex b o e), I.base.free b o (I.ok.bs b o e).1 (I.ok.bs b o e).2 (I.ok.noex b o e)⟩
theorem Inv.bk (I : Inv X pins σ H s) : ∀ b o, X.base.get? b = some o → s.heap.get? b = some o := fun b o e => (I.bs b o e).1
theorem Inv.mod (I : Inv X pins σ H s) : Mod X.K X.mg X.base := I.ok.mod
theorem Inv.kIn (I : Inv X pins σ H s) : X.K.In s.heap := I.ok.mod.kin.keeps I.bk
theorem Inv.nolimit (I : Inv X pins σ H s) : s.heap.NoLimit := I.ok.mod.nolimit.keeps I.bk
/-- the frame over the base: for OpenK's rules (K.In X.base is I.mod.kin) -/
theorem Inv.fr (I : Inv X pins σ H s) : ∃ m, Fr X.base X.env.locals s.heap m :=
  let ⟨m, hn, _⟩ := I.loc
  ⟨m, hn, I.bk, Nat.le_trans I.ok.bsz I.ok.above⟩
theorem Inv.lt (I : Inv X pins σ H s) : X.env.locals < s.heap.objs.size := let ⟨_, hn, _⟩ := I.loc; hn.lt
theorem Inv.sz (I : Inv X pins σ H s) : X.s₀.heap.objs.size ≤ s.heap.objs.size := Nat.le_trans I.ok.above (Nat.le_of_lt I.lt)
theorem Inv.nofs (I : Inv X pins σ H s) {a : Addr} (h : s.heap.objs.size ≤ a) : a ∉ X.fs := fun hb => by
  obtain ⟨_, o, ho, _⟩ := I.ok.funs.mem hb
  exact absurd (Nat.lt_of_lt_of_le (Heap.lt_size ho) (Nat.le_trans I.sz h)) (Nat.lt_irrefl _)
theorem Inv.cne (I : Inv X pins σ H s) : ∀ x c, X.env.cells.lookup x = some c → c ≠ X.env.locals := fun x c e z => by
  obtain ⟨v, o, ho, hd⟩ := I.cell x c e
  obtain ⟨m, ⟨o', es, ep, ho', hd', _⟩, _⟩ := I.loc
  rw [z, ho'] at ho; cases ho; rw [hd'] at hd; cases hd
theorem Inv.funs (I : Inv X pins σ H s) : s.heap.FunFrames X.base X.outer := by
  have all : ∀ (l : List Env), (∀ b ∈ frs l, b ∈ X.fs) → X.s₀.heap.FunFrames X.base l → s.heap.FunFrames X.base l := by
    intro l
    induction l with
    | nil => intro _ _; trivial
    | cons env r ih =>
      intro hs hl
      obtain ⟨hk, ⟨L, o, hf, hn, ho, hd⟩, hr⟩ := hl
      have hL : L ∈ X.fs := hs L (by unfold frs; rw [List.filterMap_cons, hf]; exact List.mem_cons_self)
      obtain ⟨sl, e⟩ := I.base.slot L o ho (I.ok.frf L hL) hL fun z => I.ok.exfs L z hL
      exact ⟨hk, ⟨L, _, hf, hn, e, hd⟩, ih (fun b hb => hs b (by unfold frs; rw [List.filterMap_cons, hf]; exact List.mem_cons_of_mem _ hb)) hr⟩
  exact all X.outer (fun _ hb => hb) I.ok.funs

/-- the frames that run, for a call -/
theorem Inv.stack (I : Inv X pins σ H s) : s.heap.FunFrames X.base X.stack := by
  rcases I.ok.stk with e | ⟨e, hf⟩
  · rw [e]; exact I.funs
  · rw [e]
    obtain ⟨m, hn, _⟩ := I.loc
    refine .cons (by rw [I.ok.kind]; decide) hf hn ?_ I.funs
    exact Heap.get?_none_of_le (Nat.le_trans I.ok.bsz I.ok.above)
theorem Inv.stkSub (I : Inv X pins σ H s) : ∀ b ∈ frs X.stack, b ∈ X.env.locals :: X.fs := fun b hb => by
  rcases I.ok.stk with e | ⟨e, hf⟩
  · rw [e] at hb; exact List.mem_cons_of_mem _ hb
  · rw [e] at hb
    unfold frs at hb
    rw [List.filterMap_cons, hf] at hb
    exact hb
theorem Inv.stkFree (I : Inv X pins σ H s) : ∀ b ∈ frs X.stack, H b = none := fun b hb => by
  rcases List.mem_cons.mp (I.stkSub b hb) with e | hb
  · rw [e]; exact I.free
  · obtain ⟨_, o, ho, _⟩ := I.ok.funs.mem hb
    exact I.base.free b o ho (I.ok.frf b hb) fun z => I.ok.exfs b z hb

/-- THE STEP: the untracked objects but the frame and the records at ch are kept (the callers' frames up to slots), the frame's map is kept, the new abstract heap is held -/
theorem Inv.step {g' : Array GenState} {t' : Nat} {d' : Drawn} {ch : List Addr} (I : Inv X pins σ H s)
    (hch : ∀ b ∈ ch, (b ∈ X.ex ∨ X.s₀.heap.objs.size ≤ b) ∧ b ≠ X.env.locals ∧ (∀ x c, X.env.cells.lookup x = some c → c ≠ b) ∧ ∀ p ∈ X.pn ++ pins, p.1 ≠ b)
    (keep : ∀ b o, b ≠ X.env.locals → b ∉ X.fs → b ∉ ch → s.heap.get? b = some o → H b = none → h'.get? b = some o)
    (slot : ∀ b o, b ≠ X.env.locals → b ∈ X.fs → b ∉ ch → s.heap.get? b = some o → H b = none → ∃ sl, h'.get? b = some { o with slots := sl }) (free : ∀ b o, b ∉ ch → s.heap.get? b = some o → H b = none → H' b = none)
    (there : ∀ b o, b ∉ ch → s.heap.get? b = some o → ∃ o', h'.get? b = some o')
    (tups : ∀ b xs, H b = some (.tup xs) → H' b = some (.tup xs)) (frzs : ∀ b o u, H b = some (.frz o u) → H' b = some (.frz o u)) (tbls : ∀ b ps, H b = some (.tbl ps) → ∃ more, H' b = some (.tbl (ps ++ more)))
    (ns : ∀ m, s.heap.Ns X.env.locals m → h'.Ns X.env.locals m) (hok : HOk X.prog X.w H' h') (hg : AllBare g') :
    Inv X pins σ H' { s with heap := h', gens := g', drawn := d', toks := t' } := by
  have neL : ∀ b o, X.s₀.heap.get? b = some o → b ≠ X.env.locals := fun b o e => Nat.ne_of_lt (Nat.lt_of_lt_of_le (Heap.lt_size e) I.ok.above)
  have neC : ∀ b o, X.s₀.heap.get? b = some o → b ∉ X.ex → b ∉ ch := fun b o e hx hb => by
    rcases (hch b hb).1 with z | z
    · exact hx z
    · exact absurd (Nat.lt_of_lt_of_le (Heap.lt_size e) z) (Nat.lt_irrefl _)
  have cellK : ∀ x c, X.env.cells.lookup x = some c → ∀ v, s.heap.IsCell c v → h'.IsCell c v := fun x c e v ⟨o, ho, hd⟩ => by
    have nch : c ∉ ch := fun z => (hch c z).2.2.1 x c e rfl
    by_cases hc : c ∈ X.fs
    · obtain ⟨sl, q⟩ := slot c o (I.cne x c e) hc nch ho (I.freeC x c e)
      exact ⟨_, q, hd⟩
    · exact ⟨o, keep c o (I.cne x c e) hc nch ho (I.freeC x c e), hd⟩
  refine ⟨I.ok, I.os, hg, ⟨fun b o e n hb hx => ?_, fun b o e n hb hx => ?_, fun b o e n hx => ?_, fun b o e hx => ?_, fun b xs e => tups b xs (I.base.tups b xs e), fun b o xs e => frzs b o xs (I.base.frzs b o xs e), fun b ps e => ?_⟩, ?_, fun x c e => ?_, ?_, fun x c e => ?_, fun p hp => ?_, hok, I.len⟩
  · exact keep b o (neL b o e) hb (neC b o e hx) (I.base.keep b o e n hb hx) (I.base.free b o e n hx)
  · obtain ⟨sl, e1⟩ := I.base.slot b o e n hb hx
    obtain ⟨sl', e2⟩ := slot b _ (neL b o e) hb (neC b o e hx) e1 (I.base.free b o e n hx)
    exact ⟨sl', e2⟩
  · obtain ⟨o', e1⟩ := I.base.there b o e hx
    exact free b o' (neC b o e hx) e1 (I.base.free b o e n hx)
  · obtain ⟨o', e1⟩ := I.base.there b o e hx
    exact there b o' (neC b o e hx) e1
  · obtain ⟨m1, e1⟩ := I.base.tbls b ps e
    obtain ⟨m2, e2⟩ := tbls b _ e1
    exact ⟨m1 ++ m2, by rw [e2, Array.append_assoc]⟩
  · obtain ⟨m, hn, hl⟩ := I.loc
    refine ⟨m, ns m hn, fun i x v e1 e2 e3 => ?_⟩
    obtain ⟨u, r, l⟩ := hl i x v e1 e2 e3
    refine ⟨u, r, ?_⟩
    rcases l with l | ⟨k, c, e, z⟩
    · exact .inl l
    · exact .inr ⟨k, c, e, cellK x c e _ z⟩
  · obtain ⟨v, z⟩ := I.cell x c e
    exact ⟨v, cellK x c e v z⟩
  · obtain ⟨m, ⟨o, _, _, ho, _⟩, _⟩ := I.loc
    exact free _ o (fun z => (hch _ z).2.1 rfl) ho I.free
  · obtain ⟨v, o, ho, hd⟩ := I.cell x c e
    exact free c o (fun z => (hch c z).2.2.1 x c e rfl) ho (I.freeC x c e)
  · obtain ⟨e, n, ne, nf, d⟩ := I.pin p hp
    have nch : p.1 ∉ ch := fun z => (hch p.1 z).2.2.2 p hp rfl
    exact ⟨keep p.1 p.2 ne nf nch e n, free p.1 p.2 nch e n, ne, nf, d⟩
/-- .. where the frame's own object is kept too -/
theorem Inv.un {t' : Nat} (I : Inv X pins σ H s) (u : Un X.fs [] H H' s.heap h') (hok : HOk X.prog X.w H' h') : Inv X pins σ H' { s with heap := h', toks := t' } := by
  obtain ⟨m, ⟨o, es, ep, ho, r⟩, _⟩ := id I.loc
  obtain ⟨sl, hL⟩ := u.any ho I.free (by simp)
  exact I.step (g' := s.gens) (d' := s.drawn) (ch := []) (fun _ z => nomatch z) (fun b o _ hb _ e n => u.keep b o e n hb (by simp)) (fun b o _ hb _ e n => u.slot b o e n hb (by simp)) (fun b o _ e n => u.free b o e n (by simp)) (fun b o _ e => u.there b o e (by simp)) u.tups u.frzs u.tbls (fun m' hm => by
    obtain ⟨o', es', ep', ho', r'⟩ := hm
    rw [ho] at ho'; cases ho'
    exact ⟨_, es', ep', hL, r'⟩) hok I.bare
/-- behind a call (or a comprehension's block): the slots of this frame may have changed too, the records at ch may have turned -/
theorem Inv.call {g' : Array GenState} {t' : Nat} {d' : Drawn} {ch : List Addr} (I : Inv X pins σ H s) (u : Un (frs X.stack) ch H H' s.heap h') (hok : HOk X.prog X.w H' h') (hg : AllBare g')
    (hch : ∀ b ∈ ch, (b ∈ X.ex ∨ X.s₀.heap.objs.size ≤ b) ∧ b ≠ X.env.locals ∧ (∀ x c, X.env.cells.lookup x = some c → c ≠ b) ∧ ∀ p ∈ X.pn ++ pins, p.1 ≠ b) :
    Inv X pins σ H' { s with heap := h', gens := g', drawn := d', toks := t' } := by
  obtain ⟨m, ⟨o, es, ep, ho, r⟩, _⟩ := id I.loc
  obtain ⟨sl, hL⟩ := u.any ho I.free fun z => (hch _ z).2.1 rfl
  exact I.step (ch := ch) hch (fun b o hL hb hc e n => u.keep b o e n (fun z => (List.mem_cons.mp (I.stkSub b z)).elim hL hb) hc) (fun b o _ _ hc e n => u.any e n hc) (fun b o hc e n => u.free b o e n hc) (fun b o hc e => u.there b o e hc) u.tups u.frzs u.tbls (fun m' hm => by
    obtain ⟨o', es', ep', ho', r'⟩ := hm
    rw [ho] at ho'; cases ho'
    exact ⟨_, es', ep', hL, r'⟩) hok hg
/-- an untracked record of ours (an iterator) has turned -/
theorem Inv.turned {t' : Nat} {it : Addr} (I : Inv X pins σ H s) (k : ∀ b o, b ≠ it → s.heap.get? b = some o → h'.get? b = some o) (hn : H it = none) (hL : it ≠ X.env.locals)
    (h1 : it ∈ X.ex ∨ X.s₀.heap.objs.size ≤ it) (h2 : ∀ x c, X.env.cells.lookup x = some c → c ≠ it) (h3 : ∀ p ∈ X.pn ++ pins, p.1 ≠ it) : Inv X pins σ H { s with heap := h', toks := t' } := by
  have nit : ∀ b u, H b = some u → b ≠ it := fun b u e z => by rw [z, hn] at e; cases e
  refine I.step (g' := s.gens) (d' := s.drawn) (ch := [it]) (fun b hb => ?_) (fun b o _ _ hc e _ => k b o (fun z => hc (by simp [z])) e) (fun b o _ _ hc e _ => ⟨o.slots, k b o (fun z => hc (by simp [z])) e⟩) (fun _ _ _ _ n => n)
    (fun b o hc e => ⟨o, k b o (fun z => hc (by simp [z])) e⟩) (fun _ _ e => e) (fun _ _ _ e => e) (fun b ps e => ⟨#[], by rw [e]; simp⟩) (fun m hm => ?_) (fun b u e => ?_) I.bare
  · have e : b = it := by simpa using hb
    subst e
    exact ⟨h1, hL, h2, h3⟩
  · obtain ⟨o, es, ep, ho, r⟩ := hm
    exact ⟨o, es, ep, k _ o (Ne.symm hL) ho, r⟩
  · refine (I.hok b u e).stay (fun c v hc q => k c v ?_ q) (fun _ q => q) fun _ _ q => q
    rcases hc with z | z
    · rw [z]; exact nit b u e
    · exact nit c _ z
theorem Inv.tok (I : Inv X pins σ H s) (t : Nat) : Inv X pins σ H { s with toks := t } := I.un (h' := s.heap) (t' := t) Un.refl I.hok
/-- all objects kept -/
theorem Inv.kept {t' : Nat} (I : Inv X pins σ H s) (k : ∀ b u, s.heap.get? b = some u → h'.get? b = some u) : Inv X pins σ H { s with heap := h', toks := t' } := I.un (Un.kept k) (I.hok.kept k)
/-- a new object laid and tracked -/
theorem Inv.laid {a : Addr} {o : HO} {t' : Nat} (I : Inv X pins σ H s) (k : ∀ b u, s.heap.get? b = some u → h'.get? b = some u) (hp : s.heap.objs.size ≤ a) (new : ObjOk X.prog X.w (upd H a o) h' a o) :
    Inv X pins σ (upd H a o) { s with heap := h', toks := t' } := I.un (Un.laid k hp (I.hok.fresh hp)) (I.hok.laid k hp new)
/-- an object written -/
theorem Inv.write {x e : Addr} {o : HO} {t' : Nat} (I : Inv X pins σ H s) (mu : Mut (H x)) (he : e = x ∨ H e = some (.own x)) (k : ∀ b u, b ≠ e → s.heap.get? b = some u → h'.get? b = some u) (heo : ∃ u, h'.get? e = some u)
    (new : ObjOk X.prog X.w (upd H x o) h' x o) : Inv X pins σ (upd H x o) { s with heap := h', toks := t' } := I.un (Un.write mu he k heo) (I.hok.write mu he k heo new)
/-- forgetting slots, pins -/
theorem Inv.weak {σ' : List (Option V)} (I : Inv X pins σ H s) (hl : σ'.length = σ.length) (w : ∀ (i : Nat) v, σ'[i]? = some (some v) → σ[i]? = some (some v)) : Inv X pins σ' H s :=
  ⟨I.ok, I.os, I.bare, I.base, let ⟨m, hn, hl'⟩ := I.loc; ⟨m, hn, fun i x v e1 e2 e3 => hl' i x v e1 (w i v e2) e3⟩, I.cell, I.free, I.freeC, I.pin, I.hok, hl.trans I.len⟩
theorem Inv.pins_of {pins' : List (Addr × Obj)} (I : Inv X pins σ H s) (h : ∀ p ∈ pins', s.heap.get? p.1 = some p.2 ∧ H p.1 = none ∧ p.1 ≠ X.env.locals ∧ p.1 ∉ X.fs ∧ ∀ v, p.2.data ≠ .cell v) : Inv X pins' σ H s :=
  ⟨I.ok, I.os, I.bare, I.base, I.loc, I.cell, I.free, I.freeC, fun p hp => (List.mem_append.mp hp).elim (fun z => I.pin p (List.mem_append_left _ z)) (h p), I.hok, I.len⟩

theorem nodup_ix {N : List Str} (hN : N.Nodup) {i j : Nat} {x : Str} (a : N[i]? = some x) (b : N[j]? = some x) : i = j := by
  obtain ⟨h1, e1⟩ := List.getElem?_eq_some_iff.mp a
  obtain ⟨h2, e2⟩ := List.getElem?_eq_some_iff.mp b
  exact (List.getElem_inj hN).mp (e1.trans e2.symm)

/-- a name is stored; what changed -/
theorem store_ok2 {M : Model} {A : Around} {E : Value → Shared → Prop} {i : Nat} {x : Str} {v : V} {u : Value} {Q : Unit → Shared → Prop} (I : Inv X pins σ H s) (hN : X.N.Nodup) (hi : X.N[i]? = some x) (hx : Loc X.env.scope x) (r : RelV v u)
    (h : ∀ s', Inv X pins (σ.set i (some v)) H s' → (∃ a, Heap.SameBut a s.heap s'.heap ∧ (a = X.env.locals ∨ X.env.cells.lookup x = some a)) → Q () s') (hf : X.fn x = true ∨ X.env.scope.names.lookup x = some .local := by first | exact .inl rfl | exact .inr rfl | assumption) : wpAny M A (storeName X.env x u) Q E s := by
  obtain ⟨m, hn, hl⟩ := id I.loc
  have hcls : (X.env.scope.kind == .class || (X.env.scope.kind == .module && X.env.locals != X.env.globals)) = false := by rw [I.ok.kind]; rfl
  have hiσ : i < σ.length := by rw [I.len]; exact (List.getElem?_eq_some_iff.mp hi).1
  have cne := I.cne
  have tracked : ∀ {a : Addr} {h' : Heap}, (∃ o, s.heap.get? a = some o ∧ H a = none) → Heap.SameBut a s.heap h' → HOk X.prog X.w H h' := fun {a h'} ha hs b ob e => by
    obtain ⟨_, _, hfree⟩ := ha
    refine (I.hok b ob e).stay (fun c w' hc q => (hs.2 c ?_).trans q) (fun _ q => q) fun _ _ q => q
    rintro rfl
    rcases hc with rfl | hc
    · rw [hfree] at e; cases e
    · rw [hfree] at hc; cases hc
  rcases hx with hk | hk
  · refine wpAny_storeName_local hk hn (fun h' hn' hs => ?_) hcls
    obtain ⟨oL, _, _, hoL, _⟩ := id hn
    refine h _ ⟨I.ok, I.os, I.bare, ⟨fun b o e n hb hx => ?_, fun b o e n hb hx => ?_, I.base.free, fun b o e hx => ?_, I.base.tups, I.base.frzs, I.base.tbls⟩, ⟨_, hn', fun j y v' e1 e2 e3 => ?_⟩, fun y c e => ?_, I.free, I.freeC, fun p hp => ?_, tracked ⟨oL, hoL, I.free⟩ hs, by simpa using I.len⟩ ⟨_, hs, .inl rfl⟩
    · exact (hs.2 b (Nat.ne_of_lt (Nat.lt_of_lt_of_le (Heap.lt_size e) I.ok.above))).trans (I.base.keep b o e n hb hx)
    · obtain ⟨sl, e1⟩ := I.base.slot b o e n hb hx
      exact ⟨sl, (hs.2 b (Nat.ne_of_lt (Nat.lt_of_lt_of_le (Heap.lt_size e) I.ok.above))).trans e1⟩
    · obtain ⟨o', e1⟩ := I.base.there b o e hx
      exact ⟨o', (hs.2 b (Nat.ne_of_lt (Nat.lt_of_lt_of_le (Heap.lt_size e) I.ok.above))).trans e1⟩
    · by_cases hj : j = i
      · subst hj
        rw [hi] at e1; cases e1
        rw [List.getElem?_set_self hiσ] at e2
        cases e2
        exact ⟨u, r, .inl ⟨hk, by simp⟩⟩
      · rw [List.getElem?_set_ne (Ne.symm hj)] at e2
        obtain ⟨u', r', q⟩ := hl j y v' e1 e2 e3
        refine ⟨u', r', ?_⟩
        rcases q with ⟨k, e⟩ | ⟨k, c, e, z⟩
        · refine .inl ⟨k, ?_⟩
          have : y ≠ x := fun e => hj (nodup_ix hN e1 (e ▸ hi))
          simp [this, e]
        · exact .inr ⟨k, c, e, z.sameBut hs (cne y c e)⟩
    · obtain ⟨w', z⟩ := I.cell y c e
      exact ⟨w', z.sameBut hs (cne y c e)⟩
    · obtain ⟨e, n, ne, nf, d⟩ := I.pin p hp
      exact ⟨(hs.2 p.1 ne).trans e, n, ne, nf, d⟩
  · have hfn : X.fn x = true := by
      rcases hf with z | z
      · exact z
      · rw [z] at hk; cases hk
    obtain ⟨c, hc⟩ := I.ok.has x (.inl hk)
    obtain ⟨w', z⟩ := I.cell x c hc
    refine wpAny_storeName_cell I.ok.kind hk hc z (fun h' hc' hs => ?_)
    obtain ⟨oc, hoc, hocd⟩ := id z
    refine h { s with heap := h' } ⟨I.ok, I.os, I.bare, ⟨fun b o e n hb hx => ?_, fun b o e n hb hx => ?_, I.base.free, fun b o e hx => ?_, I.base.tups, I.base.frzs, I.base.tbls⟩, ⟨m, hn.sameBut hs (Ne.symm (cne x c hc)), fun j y v' e1 e2 e3 => ?_⟩, fun y c' e => ?_, I.free, I.freeC, fun p hp => ?_, tracked ⟨oc, hoc, I.freeC x c hc⟩ hs, by simpa using I.len⟩ ⟨c, hs, .inr hc⟩
    · exact (hs.2 b (Nat.ne_of_lt (Nat.lt_of_lt_of_le (Heap.lt_size e) (I.ok.cab x c hfn hc)))).trans (I.base.keep b o e n hb hx)
    · obtain ⟨sl, e1⟩ := I.base.slot b o e n hb hx
      exact ⟨sl, (hs.2 b (Nat.ne_of_lt (Nat.lt_of_lt_of_le (Heap.lt_size e) (I.ok.cab x c hfn hc)))).trans e1⟩
    · obtain ⟨o', e1⟩ := I.base.there b o e hx
      exact ⟨o', (hs.2 b (Nat.ne_of_lt (Nat.lt_of_lt_of_le (Heap.lt_size e) (I.ok.cab x c hfn hc)))).trans e1⟩
    · by_cases hj : j = i
      · subst hj
        rw [hi] at e1; cases e1
        rw [List.getElem?_set_self hiσ] at e2
        cases e2
        exact ⟨u, r, .inr ⟨.inl hk, c, hc, hc'⟩⟩
      · rw [List.getElem?_set_ne (Ne.symm hj)] at e2
        obtain ⟨u', r', q⟩ := hl j y v' e1 e2 e3
        refine ⟨u', r', ?_⟩
        rcases q with q | ⟨k, c', e, z'⟩
        · exact .inl q
        · refine .inr ⟨k, c', e, z'.sameBut hs ?_⟩
          rintro rfl
          exact hj (nodup_ix hN e1 (I.ok.inj _ _ _ e hc ▸ hi))
    · by_cases hcc : c' = c
      · subst hcc; exact ⟨_, hc'⟩
      · obtain ⟨w2, z2⟩ := I.cell y c' e
        exact ⟨w2, z2.sameBut hs hcc⟩
    · obtain ⟨e, n, ne, nf, d⟩ := I.pin p hp
      refine ⟨(hs.2 p.1 ?_).trans e, n, ne, nf, d⟩
      intro q
      rw [q, hoc] at e
      have q' : oc = p.2 := Option.some.inj e
      exact d w' (by rw [← q']; exact hocd)
theorem store_ok {M : Model} {A : Around} {E : Value → Shared → Prop} {i : Nat} {x : Str} {v : V} {u : Value} {Q : Unit → Shared → Prop} (I : Inv X pins σ H s) (hN : X.N.Nodup) (hi : X.N[i]? = some x) (hx : Loc X.env.scope x) (r : RelV v u)
    (h : ∀ s', Inv X pins (σ.set i (some v)) H s' → Q () s') (hf : X.fn x = true ∨ X.env.scope.names.lookup x = some .local := by first | exact .inl rfl | exact .inr rfl | assumption) : wpAny M A (storeName X.env x u) Q E s :=
  store_ok2 I hN hi hx r (fun s' I' _ => h s' I') hf
/-- behind a call or a block, the state as it is -/
theorem Inv.call' {s' : Shared} {ch : List Addr} (I : Inv X pins σ H s) (ho : s'.os = s.os) (u : Un (frs X.stack) ch H H' s.heap s'.heap) (hok : HOk X.prog X.w H' s'.heap) (hg : AllBare s'.gens)
    (hch : ∀ b ∈ ch, (b ∈ X.ex ∨ X.s₀.heap.objs.size ≤ b) ∧ b ≠ X.env.locals ∧ (∀ x c, X.env.cells.lookup x = some c → c ≠ b) ∧ ∀ p ∈ X.pn ++ pins, p.1 ≠ b) : Inv X pins σ H' s' := by
  obtain ⟨h', g', d', t', o'⟩ := s'
  have e : o' = s.os := ho
  subst e
  exact I.call (g' := g') (t' := t') (d' := d') u hok hg hch
end

/-! ### the judgements -/
/-- an exception: its class, its own dict's address (where it has one), the abstract heap behind it -/
abbrev XK := Value → Option Addr → Hp → Prop
abbrev St := List (Option V)
abbrev VK := V → Hp → Prop
/-- an expression's reading; a test's; an argument list's -/
abbrev TE := St → Hp → VK → Prop
abbrev TT := St → Hp → (Bool → Hp → Prop) → Prop
abbrev TA := St → Hp → (List V → Hp → Prop) → Prop
/-- what is wanted behind a statement -/
structure Ends where
  nx : St → Hp → Prop
  rt : VK
  bk : St → Hp → Prop := fun _ _ => False
  ct : St → Hp → Prop := fun _ _ => False
abbrev TS := Ends → St → Hp → Prop

def EP (X : Cx) (pins : List (Addr × Obj)) (σ : St) (Q : VK) (u : Value) (s' : Shared) : Prop := ∃ v H', Inv X pins σ H' s' ∧ RelV v u ∧ Q v H'
def TP (X : Cx) (pins : List (Addr × Obj)) (σ : St) (Q : Bool → Hp → Prop) (b : Bool) (s' : Shared) : Prop := ∃ H', Inv X pins σ H' s' ∧ Q b H'
def AP (X : Cx) (pins : List (Addr × Obj)) (σ : St) (Q : List V → Hp → Prop) (us : List Value) (s' : Shared) : Prop := ∃ vs H', Inv X pins σ H' s' ∧ Vals vs us ∧ Q vs H'
def SP (X : Cx) (pins : List (Addr × Obj)) (D : Ends) (f : Flow) (s' : Shared) : Prop :=
  match f with
  | .next => ∃ σ' H', Inv X pins σ' H' s' ∧ D.nx σ' H'
  | .brk => ∃ σ' H', Inv X pins σ' H' s' ∧ D.bk σ' H'
  | .cont => ∃ σ' H', Inv X pins σ' H' s' ∧ D.ct σ' H'
  | .ret u => ∃ v σ' H', Inv X pins σ' H' s' ∧ RelV v u ∧ D.rt v H'

def PE (X : Cx) (e : Expr) (t : TE) : Prop :=
  ∀ (pins : List (Addr × Obj)) (s : Shared) (σ : St) (H : Hp) (Q : VK), Inv X pins σ H s → t σ H Q → wpAny (model X.prog X.w) X.A (eval e X.env) (EP X pins σ Q) X.xe s
def PT (X : Cx) (e : Expr) (t : TT) : Prop :=
  ∀ (pins : List (Addr × Obj)) (s : Shared) (σ : St) (H : Hp) (Q : Bool → Hp → Prop), Inv X pins σ H s → t σ H Q → wpAny (model X.prog X.w) X.A (isTrue e X.env (eval e X.env)) (TP X pins σ Q) X.xe s
/-- a test whatever its 'whole' is (and, or) -/
def PW (X : Cx) (e : Expr) (t : TT) : Prop :=
  ∀ (whole : Sem Value) (pins : List (Addr × Obj)) (s : Shared) (σ : St) (H : Hp) (Q : Bool → Hp → Prop), Inv X pins σ H s → t σ H Q → wpAny (model X.prog X.w) X.A (isTrue e X.env whole) (TP X pins σ Q) X.xe s
theorem PW.pt {X : Cx} {e : Expr} {t : TT} (h : PW X e t) : PT X e t := h _
/-- an argument list (no star), from the left -/
def PA (X : Cx) (es : List Expr) (t : TA) : Prop :=
  ∀ (pos : Pos) (pins : List (Addr × Obj)) (s : Shared) (σ : St) (H : Hp) (Q : List V → Hp → Prop), Inv X pins σ H s → t σ H Q → wpAny (model X.prog X.w) X.A (spliced (backTo pos (starEach es X.env))) (AP X pins σ Q) X.xe s
def PS (X : Cx) (st : Stmt) (t : TS) : Prop :=
  ∀ (pins : List (Addr × Obj)) (s : Shared) (σ : St) (H : Hp) (D : Ends), Inv X pins σ H s → t D σ H → wpAny (model X.prog X.w) X.A (exec st X.env) (SP X pins D) X.xe s
def PSs (X : Cx) (st : List Stmt) (t : TS) : Prop :=
  ∀ (pins : List (Addr × Obj)) (s : Shared) (σ : St) (H : Hp) (D : Ends), Inv X pins σ H s → t D σ H → wpAny (model X.prog X.w) X.A (execs st X.env) (SP X pins D) X.xe s
/-- weaken the end -/
theorem thn {α : Type} {t : Sem α} {Q Q' : α → Shared → Prop} {M : Model} {A : Around} {E : Value → Shared → Prop} {s : Shared} (h : wpAny M A t Q E s) (hQ : ∀ a s, Q a s → Q' a s) : wpAny M A t Q' E s := wpAny_mono h hQ fun _ _ x => x
end L2

namespace L2
open PySem PySem.Spec PyProof.Rows
section
variable {X : Cx}

/-- two expressions in a row -/
theorem bin {a b : Expr} {ta tb : TE} (ha : PE X a ta) (hb : PE X b tb) {pins : List (Addr × Obj)} {s : Shared} {σ : St} {H : Hp} {R : V → V → Hp → Prop} (I : Inv X pins σ H s) (h : ta σ H fun x H1 => tb σ H1 fun y H2 => R x y H2)
    {α : Type} {Q : α → Shared → Prop} {f : Value → Value → Sem α}
    (hf : ∀ v u s2 x y H2, Inv X pins σ H2 s2 → RelV x v → RelV y u → R x y H2 → wpAny (model X.prog X.w) X.A (f v u) Q X.xe s2) :
    wpAny (model X.prog X.w) X.A (eval a X.env) (fun v s₁ => wpAny (model X.prog X.w) X.A (eval b X.env) (fun u s₂ => wpAny (model X.prog X.w) X.A (f v u) Q X.xe s₂) X.xe s₁) X.xe s := by
  refine thn (ha pins s σ H _ I h) fun v s1 ⟨x, H1, I1, r1, q1⟩ => ?_
  refine thn (hb pins s1 σ H1 _ I1 q1) fun u s2 ⟨y, H2, I2, r2, q2⟩ => ?_
  exact hf v u s2 x y H2 I2 r1 r2 q2

/-! ### names and constants -/
def tVar (i : Nat) : TE := fun σ H Q => ∃ v, σ[i]? = some (some v) ∧ Q v H
def tC (v : V) : TE := fun _ H Q => Q v H
theorem pe_var {i : Nat} {x : Str} {pos : Pos} (hN : X.N[i]? = some x) (hv : Vis X.env.scope x) (hd : (x == ("__debug__" : Str)) = false := by decide) (hcd : (x == ("__classdict__" : Str)) = false := by decide) : PE X (.Name x pos) (tVar i) := by
  intro pins s σ H Q I h
  obtain ⟨v, e, h⟩ := h
  obtain ⟨m, hn, hl⟩ := I.loc
  obtain ⟨u, r, l⟩ := hl i x v hN e hv
  have fin : EP X pins σ Q u s := ⟨v, H, I, r, h⟩
  rcases l with ⟨hk, hm⟩ | ⟨hk, c, hc, hcell⟩
  · exact wpAny_Name (wpAny_loadName_local I.ok.kind hk hn hm fin) hd
  · rcases hk with hk | hk
    · exact wpAny_Name (wpAny_loadName_cell I.ok.kind hk hc hcell fin) hd
    · exact wpAny_Name (wpAny_loadName_free I.ok.kind hk hc hcell fin hcd) hd
theorem pe_int {i j pos} : PE X (.Constant (.int i) j pos) (tC (.int i)) := fun _ _ _ H _ I h => wpAny_Constant_int ⟨.int i, H, I.tok _, ⟨_, rfl⟩, h⟩
theorem pe_bl {b j pos} : PE X (.Constant (.bool b) j pos) (tC (.bl b)) := fun _ _ _ H _ I h => Constant_bool ⟨.bl b, H, I, rfl, h⟩
theorem pe_non {j pos} : PE X (.Constant .none j pos) (tC .non) := fun _ _ _ H _ I h => Constant_none ⟨.non, H, I, rfl, h⟩
theorem pe_str {x j pos} : PE X (.Constant (.str x) j pos) (tC (.str x)) := fun _ _ _ H _ I h => Calls.Constant_str ⟨.str x, H, I.tok _, ⟨_, rfl⟩, h⟩

/-- a global name of the def -/
def Gl (X : Cx) (x : Str) : Prop := X.env.kindOf x = some .globalImplicit
theorem ld_glob {E : Value → Shared → Prop} {pins : List (Addr × Obj)} {s : Shared} {σ : St} {H : Hp} {x : Str} {u : Value} {pos : Pos} {Q : Value → Shared → Prop} (I : Inv X pins σ H s) (hg : Gl X x) (hm : X.mg x = some u) (h : Q u s)
    (hd : (x == ("__debug__" : Str)) = false := by decide) : wpAny (model X.prog X.w) X.A (eval (.Name x pos) X.env) Q E s :=
  Calls.Name_function_global I.ok.kind hg (Calls.loadGlobal_global (by rw [I.ok.glob]; exact I.mod.glob.keeps I.bk) hm h) hd
theorem ld_blt {E : Value → Shared → Prop} {pins : List (Addr × Obj)} {s : Shared} {σ : St} {H : Hp} {x : Str} {u : Value} {pos : Pos} {Q : Value → Shared → Prop} (I : Inv X pins σ H s) (hg : Gl X x) (hm : X.mg x = none) (hv : bootBuiltins x = some u) (h : Q u s)
    (hn : x ≠ "__name__" := by decide) (hd : (x == ("__debug__" : Str)) = false := by decide) : wpAny (model X.prog X.w) X.A (eval (.Name x pos) X.env) Q E s := by
  obtain ⟨mb, h1, h2⟩ := I.mod.blt
  exact Calls.Name_function_global I.ok.kind hg (Calls.loadGlobal_builtin (by rw [I.ok.glob]; exact I.mod.glob.keeps I.bk) hm (by rw [I.ok.blt]; exact h1.keeps I.bk) ((h2 x hn).trans hv) h) hd
/-- a module's constant, a class, a function, as a value -/
theorem pe_glob {x : Str} {v : V} {u : Value} {pos : Pos} (hg : Gl X x) (hm : X.mg x = some u) (r : RelV v u) (hd : (x == ("__debug__" : Str)) = false := by decide) : PE X (.Name x pos) (tC v) :=
  fun _ _ _ H _ I h => ld_glob I hg hm ⟨v, H, I, r, h⟩ hd
theorem pe_bltn {x : Str} {v : V} {u : Value} {pos : Pos} (hg : Gl X x) (hm : X.mg x = none) (hv : bootBuiltins x = some u) (r : RelV v u) (hn : x ≠ "__name__" := by decide) (hd : (x == ("__debug__" : Str)) = false := by decide) : PE X (.Name x pos) (tC v) :=
  fun _ _ _ H _ I h => ld_blt I hg hm hv ⟨v, H, I, r, h⟩ hn hd

/-! ### arithmetic -/
/-- two ints -/
def t2I (ta tb : TE) (k : Int → Int → Hp → Prop) : St → Hp → Prop := fun σ H => ta σ H fun x H1 => tb σ H1 fun y H2 => ∃ i j, x = .int i ∧ y = .int j ∧ k i j H2
def tAdd (ta tb : TE) : TE := fun σ H Q => t2I ta tb (fun i j H2 => Q (.int (i + j)) H2) σ H
def tSub (ta tb : TE) : TE := fun σ H Q => t2I ta tb (fun i j H2 => Q (.int (i - j)) H2) σ H
/-- the left factor below 2^64 -/
def tMul (ta tb : TE) : TE := fun σ H Q => t2I ta tb (fun i j H2 => (-(2 ^ 64) < i ∧ i < 2 ^ 64) ∧ Q (.int (i * j)) H2) σ H
variable {a b : Expr} {ta tb : TE} {pos : Pos}
theorem pe_add (ha : PE X a ta) (hb : PE X b tb) : PE X (.BinOp a .Add b pos) (tAdd ta tb) := by
  intro pins s σ H Q I h
  refine wpAny_BinOp (bin ha hb I h fun v u s2 x y H2 I2 rx ry q => ?_)
  obtain ⟨i, j, rfl, rfl, q⟩ := q
  obtain ⟨t, rfl⟩ := rx
  obtain ⟨t', rfl⟩ := ry
  exact add_int ⟨.int _, H2, I2.tok _, ⟨_, rfl⟩, q⟩
theorem pe_sub (ha : PE X a ta) (hb : PE X b tb) : PE X (.BinOp a .Sub b pos) (tSub ta tb) := by
  intro pins s σ H Q I h
  refine wpAny_BinOp (bin ha hb I h fun v u s2 x y H2 I2 rx ry q => ?_)
  obtain ⟨i, j, rfl, rfl, q⟩ := q
  obtain ⟨t, rfl⟩ := rx
  obtain ⟨t', rfl⟩ := ry
  exact sub_int ⟨.int _, H2, I2.tok _, ⟨_, rfl⟩, q⟩
theorem pe_mul (ha : PE X a ta) (hb : PE X b tb) : PE X (.BinOp a .Mult b pos) (tMul ta tb) := by
  intro pins s σ H Q I h
  refine wpAny_BinOp (bin ha hb I h fun v u s2 x y H2 I2 rx ry q => ?_)
  obtain ⟨i, j, rfl, rfl, ⟨q1, q2⟩, q⟩ := q
  obtain ⟨t, rfl⟩ := rx
  obtain ⟨t', rfl⟩ := ry
  exact mul_int ⟨.int _, H2, I2.tok _, ⟨_, rfl⟩, q⟩ (.of_left (intBits_le_64 q1 q2))

/-! ### comparisons -/
def PC (X : Cx) (op : CmpOp) (a b : Expr) (t : TE) : Prop :=
  ∀ (pins : List (Addr × Obj)) (s : Shared) (σ : St) (H : Hp) (Q : VK), Inv X pins σ H s → t σ H Q →
    wpAny (model X.prog X.w) X.A (eval a X.env) (fun v s₁ => wpAny (model X.prog X.w) X.A (eval b X.env) (fun u s₂ => wpAny (model X.prog X.w) X.A (compareOp op v u) (EP X pins σ Q) X.xe s₂) X.xe s₁) X.xe s
theorem nobehind (b : Expr) {op : CmpOp} (h : op ≠ .In) (h2 : op ≠ .NotIn) : behindInMarks op b = false := by
  have e1 : (op == CmpOp.In) = false := by cases op <;> first | rfl | exact absurd rfl h
  have e2 : (op == CmpOp.NotIn) = false := by cases op <;> first | rfl | exact absurd rfl h2
  cases b <;> simp [behindInMarks, e1, e2]
def tCmp (p : Int → Int → Bool) (ta tb : TE) : TE := fun σ H Q => t2I ta tb (fun i j H2 => Q (.bl (p i j)) H2) σ H
abbrev tLt : TE → TE → TE := tCmp fun i j => decide (i < j)
abbrev tLe : TE → TE → TE := tCmp fun i j => decide (i ≤ j)
abbrev tGt : TE → TE → TE := tCmp fun i j => decide (j < i)
abbrev tGe : TE → TE → TE := tCmp fun i j => decide (j ≤ i)
abbrev tEqI : TE → TE → TE := tCmp fun i j => decide (i = j)
abbrev tNeI : TE → TE → TE := tCmp fun i j => !decide (i = j)
/-- a comparison of two ints, by its rule -/
theorem pc_int {op : CmpOp} {p : Int → Int → Bool} (ha : PE X a ta) (hb : PE X b tb)
    (rule : ∀ (i j : Int) (t u : Tok) (Q : Value → Shared → Prop) (s : Shared), Q (.bool (p i j)) s → wpAny (model X.prog X.w) X.A (compareOp op (.int i t) (.int j u)) Q X.xe s) : PC X op a b (tCmp p ta tb) := by
  intro pins s σ H Q I h
  refine bin ha hb I h fun v u s2 x y H2 I2 rx ry q => ?_
  obtain ⟨i, j, rfl, rfl, q⟩ := q
  obtain ⟨t, rfl⟩ := rx
  obtain ⟨t', rfl⟩ := ry
  exact rule i j t t' _ s2 ⟨.bl _, H2, I2, rfl, q⟩
theorem pc_lt (ha : PE X a ta) (hb : PE X b tb) : PC X .Lt a b (tLt ta tb) := pc_int ha hb fun _ _ _ _ _ _ h => lt_int h
theorem pc_le (ha : PE X a ta) (hb : PE X b tb) : PC X .LtE a b (tLe ta tb) := pc_int ha hb fun _ _ _ _ _ _ h => le_int h
theorem pc_gt (ha : PE X a ta) (hb : PE X b tb) : PC X .Gt a b (tGt ta tb) := pc_int ha hb fun _ _ _ _ _ _ h => gt_int h
theorem pc_ge (ha : PE X a ta) (hb : PE X b tb) : PC X .GtE a b (tGe ta tb) := pc_int ha hb fun _ _ _ _ _ _ h => ge_int h
theorem pc_eqI (ha : PE X a ta) (hb : PE X b tb) : PC X .Eq a b (tEqI ta tb) := pc_int ha hb fun _ _ _ _ _ _ h => eq_int (by rw [Bool.beq_eq_decide_eq]; exact h)
theorem pc_neI (ha : PE X a ta) (hb : PE X b tb) : PC X .NotEq a b (tNeI ta tb) := pc_int ha hb fun _ _ _ _ _ _ h => ne_int (by rw [bne, Bool.beq_eq_decide_eq]; exact h)
/-- is None -/
def tIsN (ta : TE) : TE := fun σ H Q => ta σ H fun x H1 => Q (.bl (decide (x = .non))) H1
def tNotN (ta : TE) : TE := fun σ H Q => ta σ H fun x H1 => Q (.bl (!decide (x = .non))) H1
theorem RelV.none_iff {x : V} {v : Value} (r : RelV x v) : (v == Value.none) = decide (x = .non) := by
  cases x with
  | non => cases r; rfl
  | bl _ => cases r; rfl
  | int _ => obtain ⟨t, rfl⟩ := r; rfl
  | str _ => obtain ⟨t, rfl⟩ := r; rfl
  | byt _ => obtain ⟨t, rfl⟩ := r; rfl
  | flt _ => obtain ⟨t, rfl⟩ := r; rfl
  | ref _ => cases r; rfl
  | ty _ => cases r; rfl
theorem pc_isN {j pos'} (ha : PE X a ta) : PC X .Is a (.Constant .none j pos') (tIsN ta) := by
  intro pins s σ H Q I h
  refine thn (ha pins s σ H _ I h) fun v s1 ⟨x, H1, I1, r1, q1⟩ => ?_
  exact Constant_none (is_none_gen ⟨.bl _, H1, I1, by rw [r1.none_iff]; rfl, q1⟩)
theorem pc_notN {j pos'} (ha : PE X a ta) : PC X .IsNot a (.Constant .none j pos') (tNotN ta) := by
  intro pins s σ H Q I h
  refine thn (ha pins s σ H _ I h) fun v s1 ⟨x, H1, I1, r1, q1⟩ => ?_
  exact Constant_none (isnot_none_gen ⟨.bl _, H1, I1, by rw [r1.none_iff]; rfl, q1⟩)
/-- a comparison as a value, as a test -/
def tB (t : TE) : TT := fun σ H Q => t σ H fun x H1 => ∃ c, x = .bl c ∧ Q c H1
theorem pe_cmp {op : CmpOp} {t : TE} (h : PC X op a b t) (h1 : behindInMarks op b = false := by first | exact nobehind _ (by decide) (by decide) | rfl) : PE X (.Compare a [op] [b] pos) t := fun pins s σ H Q I hw => wpAny_Compare1 (h pins s σ H Q I hw) h1
theorem pt_cmp {op : CmpOp} {t : TE} (h : PC X op a b t) (h1 : behindInMarks op b = false := by first | exact nobehind _ (by decide) (by decide) | rfl) : PT X (.Compare a [op] [b] pos) (tB t) := by
  intro pins s σ H Q I hw
  refine wpAny_isTrue_Compare1 (thn (h pins s σ H _ I hw) fun v s1 h1 => thn h1 fun u s2 h2 => thn h2 fun c s3 ⟨x, H1, I1, r1, q1⟩ => ?_) h1
  obtain ⟨d, rfl, q⟩ := q1
  cases r1
  exact wpAny_truthy_bool ⟨H1, I1, q⟩
/-- an expression whose value is a bool, as a test -/
theorem pt_val {e : Expr} {t : TE} (h : PE X e t) (he : ∀ whole, isTrue e X.env whole = (do let v ← whole; standAt e.pos; holding [v] (truthy v)) := by intro _; rfl) : PT X e (tB t) := by
  intro pins s σ H Q I hw
  refine isTrue_plain (thn (h pins s σ H _ I hw) fun v s1 ⟨x, H1, I1, r1, q1⟩ => ?_) (he _)
  obtain ⟨d, rfl, q⟩ := q1
  cases r1
  exact wpAny_truthy_bool ⟨H1, I1, q⟩

/-! ### and, or, not -/
variable {tA tB' : TT} {rest : List Expr}
def tAnd (t u : TT) : TT := fun σ H Q => t σ H fun c H1 => if c = true then u σ H1 Q else Q false H1
def tOr (t u : TT) : TT := fun σ H Q => t σ H fun c H1 => if c = true then Q true H1 else u σ H1 Q
def tNot (t : TT) : TT := fun σ H Q => t σ H fun c H1 => Q (!c) H1
theorem pw_and1 (ha : PT X a tA) : PW X (.BoolOp .And [a] pos) tA := by
  intro wh pins s σ H Q I h
  refine isTrue_and (thn (ha pins s σ H Q I h) fun c s1 e => ?_)
  cases c with
  | true => exact isTrue_and_nil e
  | false => exact e
theorem pw_or1 (ha : PT X a tA) : PW X (.BoolOp .Or [a] pos) tA := by
  intro wh pins s σ H Q I h
  refine isTrue_or (thn (ha pins s σ H Q I h) fun c s1 e => ?_)
  cases c with
  | false => exact isTrue_or_nil e
  | true => exact e
theorem pw_and (ha : PT X a tA) (hb : PW X (.BoolOp .And (b :: rest) pos) tB') : PW X (.BoolOp .And (a :: b :: rest) pos) (tAnd tA tB') := by
  intro wh pins s σ H Q I h
  refine isTrue_and (thn (ha pins s σ H _ I h) fun c s1 ⟨H1, I1, q1⟩ => ?_)
  cases c with
  | true => exact hb wh pins s1 σ H1 Q I1 q1
  | false => exact ⟨H1, I1, q1⟩
theorem pw_or (ha : PT X a tA) (hb : PW X (.BoolOp .Or (b :: rest) pos) tB') : PW X (.BoolOp .Or (a :: b :: rest) pos) (tOr tA tB') := by
  intro wh pins s σ H Q I h
  refine isTrue_or (thn (ha pins s σ H _ I h) fun c s1 ⟨H1, I1, q1⟩ => ?_)
  cases c with
  | true => exact ⟨H1, I1, q1⟩
  | false => exact hb wh pins s1 σ H1 Q I1 q1
theorem pt_not (ha : PT X a tA) : PT X (.UnaryOp .Not a pos) (tNot tA) := by
  intro pins s σ H Q I h
  exact isTrue_not (ha pins s σ H (fun c H1 => Q (!c) H1) I h)
/-- .. as values (bools) -/
def tAndV (ta tb : TE) : TE := fun σ H Q => ta σ H fun x H1 => ∃ c, x = .bl c ∧ if c = true then tb σ H1 Q else Q (.bl false) H1
def tOrV (ta tb : TE) : TE := fun σ H Q => ta σ H fun x H1 => ∃ c, x = .bl c ∧ if c = true then Q (.bl true) H1 else tb σ H1 Q
def tNotV (ta : TE) : TE := fun σ H Q => ta σ H fun x H1 => ∃ c, x = .bl c ∧ Q (.bl (!c)) H1
theorem pe_one {op} {t : TE} (h : PE X a t) : PE X (.BoolOp op [a] pos) t := fun pins s σ H Q I hw => BoolOp_one (h pins s σ H Q I hw)
theorem pe_and (ha : PE X a ta) (hb : PE X (.BoolOp .And (b :: rest) pos) tb) : PE X (.BoolOp .And (a :: b :: rest) pos) (tAndV ta tb) := by
  intro pins s σ H Q I h
  refine BoolOp_and (thn (ha pins s σ H _ I h) fun v s1 ⟨x, H1, I1, r1, q1⟩ => ?_)
  obtain ⟨c, rfl, q1⟩ := q1
  cases r1
  refine wpAny_truthy_bool ?_
  cases c with
  | true => exact hb pins s1 σ H1 Q I1 q1
  | false => exact ⟨.bl false, H1, I1, rfl, q1⟩
theorem pe_or (ha : PE X a ta) (hb : PE X (.BoolOp .Or (b :: rest) pos) tb) : PE X (.BoolOp .Or (a :: b :: rest) pos) (tOrV ta tb) := by
  intro pins s σ H Q I h
  refine BoolOp_or (thn (ha pins s σ H _ I h) fun v s1 ⟨x, H1, I1, r1, q1⟩ => ?_)
  obtain ⟨c, rfl, q1⟩ := q1
  cases r1
  refine wpAny_truthy_bool ?_
  cases c with
  | false => exact hb pins s1 σ H1 Q I1 q1
  | true => exact ⟨.bl true, H1, I1, rfl, q1⟩
theorem pe_not (ha : PE X a ta) : PE X (.UnaryOp .Not a pos) (tNotV ta) := by
  intro pins s σ H Q I h
  refine UnaryOp_ (thn (ha pins s σ H _ I h) fun v s1 ⟨x, H1, I1, r1, q1⟩ => ?_)
  obtain ⟨c, rfl, q1⟩ := q1
  cases r1
  exact not_of (wpAny_truthy_bool ⟨.bl (!c), H1, I1, rfl, q1⟩)
/-- a if t else b -/
def tIf (t : TT) (ta tb : TE) : TE := fun σ H Q => t σ H fun c H1 => if c = true then ta σ H1 Q else tb σ H1 Q
theorem pe_ifExp {c : Expr} (hc : PT X c tA) (ha : PE X a ta) (hb : PE X b tb) : PE X (.IfExp c a b pos) (tIf tA ta tb) := by
  intro pins s σ H Q I h
  refine wpAny_IfExp (thn (hc pins s σ H _ I h) fun d s1 ⟨H1, I1, q1⟩ => ?_)
  cases d with
  | true => exact ha pins s1 σ H1 Q I1 q1
  | false => exact hb pins s1 σ H1 Q I1 q1
end
end L2

namespace L2
open PySem PySem.Spec PyProof.Rows

/-! ### a list, a tuple that is read: tracked, frozen, or an object of the module -/
def SqL (K : PySem.W.Frag) (H : Hp) (a : Addr) (xs : List V) : Prop :=
  Rd H a (.lst xs) ∨
    ∃ (o : Obj) (its : Array Value) (n : Nat), K.lookup a = some o ∧ o.cls = .type "list" ∧ o.dict = none ∧ o.data = .seq its n ∧ its.size ≤ sizeLine ∧ Vals xs its.toList
def SqT (K : PySem.W.Frag) (H : Hp) (a : Addr) (xs : List V) : Prop :=
  Rd H a (.tup xs) ∨
    ∃ (o : Obj) (its : Array Value) (n : Nat), K.lookup a = some o ∧ o.cls = .type "tuple" ∧ o.data = .seq its n ∧ its.size ≤ sizeLine ∧ Vals xs its.toList
def absV : Value → Option V
  | .none => some .non
  | .bool b => some (.bl b)
  | .int i _ => some (.int i)
  | .str x _ => some (.str x)
  | .bytes b _ => some (.byt b)
  | .float b _ => some (.flt b)
  | .ref a => some (.ref a)
  | .type n => some (.ty n)
  | _ => none
theorem RelV.abs {x : V} {u : Value} (r : RelV x u) : absV u = some x := by
  cases x with
  | non => cases r; rfl
  | bl _ => cases r; rfl
  | int _ => obtain ⟨t, rfl⟩ := r; rfl
  | str _ => obtain ⟨t, rfl⟩ := r; rfl
  | byt _ => obtain ⟨t, rfl⟩ := r; rfl
  | flt _ => obtain ⟨t, rfl⟩ := r; rfl
  | ref _ => cases r; rfl
  | ty _ => cases r; rfl
theorem RelV.inj {x y : V} {u : Value} (r : RelV x u) (q : RelV y u) : x = y := Option.some.inj (r.abs.symm.trans q.abs)
theorem Vals.inj : ∀ {xs ys : List V} {us : List Value}, Vals xs us → Vals ys us → xs = ys
  | _, _, _, .nil, .nil => rfl
  | _, _, _, .cons r t, .cons r' t' => by rw [r.inj r', Vals.inj t t']
section
variable {X : Cx} {pins : List (Addr × Obj)} {σ : St} {H : Hp} {s : Shared} {a : Addr} {xs ys : List V}
theorem SqL.of {K : PySem.W.Frag} (h : H a = some (.lst xs)) : SqL K H a xs := .inl (.inl h)
theorem SqT.of {K : PySem.W.Frag} (h : H a = some (.tup xs)) : SqT K H a xs := .inl (.inl h)
theorem Inv.list (I : Inv X pins σ H s) (h : SqL X.K H a xs) : ∃ its : List Value, Vals xs its ∧ PlainL s.heap a its.toArray ∧ xs.length ≤ sizeLine := by
  rcases h with h | ⟨o, its, n, hk, hc, hd, hs, hz, r⟩
  · obtain ⟨z, its, n, r, e⟩ := h.ok I.hok
    exact ⟨its, r, ⟨_, n, e, rfl, rfl, rfl⟩, z⟩
  · refine ⟨its.toList, r, ⟨o, n, I.kIn a o hk, hc, hd, by simpa using hs⟩, ?_⟩
    have e := r.length
    simp only [Array.length_toList] at e
    omega
theorem Inv.tuple (I : Inv X pins σ H s) (h : SqT X.K H a xs) : ∃ its : List Value, Vals xs its ∧ IsTup s.heap a its.toArray ∧ xs.length ≤ sizeLine := by
  rcases h with h | ⟨o, its, n, hk, hc, hs, hz, r⟩
  · obtain ⟨z, its, r, p⟩ := h.ok I.hok
    exact ⟨its, r, p, z⟩
  · refine ⟨its.toList, r, ⟨o, I.kIn a o hk, hc, n, by simpa using hs⟩, ?_⟩
    have e := r.length
    simp only [Array.length_toList] at e
    omega
theorem Inv.list_inj (I : Inv X pins σ H s) (h : SqL X.K H a xs) (h' : SqL X.K H a ys) : xs = ys := by
  obtain ⟨its, r, ⟨o, n, e, _, _, d⟩, _⟩ := I.list h
  obtain ⟨its', r', ⟨o', n', e', _, _, d'⟩, _⟩ := I.list h'
  rw [e] at e'; cases e'
  rw [d] at d'
  injection d' with d1 _
  have : its = its' := by simpa using congrArg Array.toList d1
  subst this
  exact r.inj r'
theorem Inv.tuple_inj (I : Inv X pins σ H s) (h : SqT X.K H a xs) (h' : SqT X.K H a ys) : xs = ys := by
  obtain ⟨its, r, ⟨o, e, _, n, d⟩, _⟩ := I.tuple h
  obtain ⟨its', r', ⟨o', e', _, n', d'⟩, _⟩ := I.tuple h'
  rw [e] at e'; cases e'
  rw [d] at d'
  injection d' with d1 _
  have : its = its' := by simpa using congrArg Array.toList d1
  subst this
  exact r.inj r'
end

/-! ### another wish about exceptions -/
abbrev Cx.wish (X : Cx) (E : Value → Shared → Prop) : Cx := { X with xe := E }
/-- no exception leaves -/
abbrev Cx.nox (X : Cx) : Cx := X.wish fun _ _ => False
theorem Cx.Ok.wish {X : Cx} (ok : X.Ok) (E : Value → Shared → Prop) : (X.wish E).Ok :=
  ⟨ok.mod, ok.kind, ok.glob, ok.blt, ok.above, ok.inj, ok.has, ok.cab, ok.hd, ok.frames, ok.stk, ok.exf, ok.bs, ok.bsz, ok.noex, ok.exfs, ok.funs, ok.frf⟩
theorem Cx.Ok.unwish {X : Cx} {E : Value → Shared → Prop} (ok : (X.wish E).Ok) : X.Ok :=
  ⟨ok.mod, ok.kind, ok.glob, ok.blt, ok.above, ok.inj, ok.has, ok.cab, ok.hd, ok.frames, ok.stk, ok.exf, ok.bs, ok.bsz, ok.noex, ok.exfs, ok.funs, ok.frf⟩
section
variable {X : Cx} {pins : List (Addr × Obj)} {σ : St} {H : Hp} {s : Shared} {E : Value → Shared → Prop}
theorem Inv.wish (I : Inv X pins σ H s) (E : Value → Shared → Prop) : Inv (X.wish E) pins σ H s := ⟨I.ok.wish E, I.os, I.bare, I.base, I.loc, I.cell, I.free, I.freeC, I.pin, I.hok, I.len⟩
theorem Inv.unwish (I : Inv (X.wish E) pins σ H s) : Inv X pins σ H s := ⟨I.ok.unwish, I.os, I.bare, I.base, I.loc, I.cell, I.free, I.freeC, I.pin, I.hok, I.len⟩
theorem SP.unwish {D : Ends} {f : Flow} {s' : Shared} (h : SP (X.wish E) pins D f s') : SP X pins D f s' := by
  cases f with
  | next => obtain ⟨σ', H', I, q⟩ := h; exact ⟨σ', H', I.unwish, q⟩
  | brk => obtain ⟨σ', H', I, q⟩ := h; exact ⟨σ', H', I.unwish, q⟩
  | cont => obtain ⟨σ', H', I, q⟩ := h; exact ⟨σ', H', I.unwish, q⟩
  | ret u => obtain ⟨v, σ', H', I, r, q⟩ := h; exact ⟨v, σ', H', I.unwish, r, q⟩
theorem PE.nox {e : Expr} {t : TE} (h : PE X.nox e t) : PE X e t := fun pins s σ H Q I hw =>
  wpAny_mono (h pins s σ H Q (I.wish _) hw) (fun _ _ ⟨v, H', I', r, q⟩ => ⟨v, H', I'.unwish, r, q⟩) fun _ _ z => False.elim z
theorem PT.nox {e : Expr} {t : TT} (h : PT X.nox e t) : PT X e t := fun pins s σ H Q I hw =>
  wpAny_mono (h pins s σ H Q (I.wish _) hw) (fun _ _ ⟨H', I', q⟩ => ⟨H', I'.unwish, q⟩) fun _ _ z => False.elim z
theorem PSs.nox {st : List Stmt} {t : TS} (h : PSs X.nox st t) : PSs X st t := fun pins s σ H D I hw =>
  wpAny_mono (h pins s σ H D (I.wish _) hw) (fun _ _ q => q.unwish) fun _ _ z => False.elim z
end

/-! ### blocks and small statements -/
section
variable {X : Cx} {st : Stmt} {rest : List Stmt} {t u : TS} {e : Expr} {te : TE} {pos : Pos}
def tNext : TS := fun D σ H => D.nx σ H
def tSeq (t u : TS) : TS := fun D σ H => t { D with nx := u D } σ H
theorem pss_nil : PSs X [] tNext := fun _ _ σ H _ I h => wpAny_execs_nil ⟨σ, H, I, h⟩
theorem pss_cons (h1 : PS X st t) (h2 : PSs X rest u) : PSs X (st :: rest) (tSeq t u) := by
  intro pins s σ H D I h
  refine wpAny_execs_cons (thn (h1 pins s σ H { D with nx := u D } I h) fun f s1 q => ?_)
  cases f with
  | next =>
    obtain ⟨σ', H', I', q⟩ := q
    exact h2 pins s1 σ' H' D I' q
  | ret v => exact q
  | brk => exact q
  | cont => exact q
theorem pss_one (h1 : PS X st t) : PSs X [st] t := by
  intro pins s σ H D I h
  refine wpAny_execs_cons (thn (h1 pins s σ H D I h) fun f s1 q => ?_)
  cases f with
  | next => exact wpAny_execs_nil q
  | ret v => exact q
  | brk => exact q
  | cont => exact q
def tBreak : TS := fun D σ H => D.bk σ H
def tCont : TS := fun D σ H => D.ct σ H
theorem ps_pass : PS X (.Pass pos) tNext := fun _ _ σ H _ I h => wpAny_Pass ⟨σ, H, I, h⟩
theorem ps_break : PS X (.Break pos) tBreak := fun _ _ σ H _ I h => wpAny_Break ⟨σ, H, I, h⟩
theorem ps_continue : PS X (.Continue pos) tCont := fun _ _ σ H _ I h => wpAny_Continue ⟨σ, H, I, h⟩
/-- in a def's body nothing is shown -/
theorem Inv.quiet {pins : List (Addr × Obj)} {σ : St} {H : Hp} {s : Shared} (I : Inv X pins σ H s) : interactive X.env = false := by simp [interactive, I.ok.kind]
/-- a docstring -/
theorem ps_doc {x j pos pos'} : PS X (.Expr (.Constant (.str x) j pos) pos') tNext := fun _ s σ H _ I h => wpAny_Expr (Calls.Constant_str (show SP X _ _ .next { s with toks := s.toks + 1 } from ⟨σ, H, I.tok _, h⟩)) I.quiet
/-- an expression whose value is dropped -/
def tDrop (te : TE) : TS := fun D σ H => te σ H fun _ H1 => D.nx σ H1
theorem ps_expr (he : PE X e te) (hs : swapsWith e none pos.line X.env = pure false := by rfl) : PS X (.Expr e pos) (tDrop te) := by
  intro pins s σ H D I h
  exact wpAny_Expr_any (thn (he pins s σ H _ I h) fun v s1 ⟨x, H1, I1, r1, q1⟩ => ⟨σ, H1, I1, q1⟩) I.quiet hs
def tRet (te : TE) : TS := fun D σ H => te σ H D.rt
theorem ps_ret (he : PE X e te) : PS X (.Return (some e) pos) (tRet te) := by
  intro pins s σ H D I h
  exact wpAny_Return_some (thn (he pins s σ H _ I h) fun v s1 ⟨x, H1, I1, r1, q1⟩ => ⟨x, σ, H1, I1, r1, q1⟩)
def tRetN : TS := fun D _ H => D.rt .non H
theorem ps_retN : PS X (.Return none pos) tRetN := fun _ _ σ H _ I h => wpAny_Return_none ⟨.non, σ, H, I, rfl, h⟩
def tIfS (c : TT) (t u : TS) : TS := fun D σ H => c σ H fun b H1 => if b = true then t D σ H1 else u D σ H1
theorem ps_if {c : Expr} {a b : List Stmt} {tc : TT} (hc : PT X c tc) (ha : PSs X a t) (hb : PSs X b u) : PS X (.If c a b pos) (tIfS tc t u) := by
  intro pins s σ H D I h
  refine wpAny_If (thn (hc pins s σ H _ I h) fun d s1 ⟨H1, I1, q1⟩ => ?_)
  cases d with
  | true => exact ha pins s1 σ H1 D I1 q1
  | false => exact hb pins s1 σ H1 D I1 q1
/-- code that the proof never comes to -/
def tNever : TS := fun _ _ _ => False
theorem ps_never : PS X st tNever := fun _ _ _ _ _ _ h => h.elim
theorem pss_never {sts : List Stmt} : PSs X sts tNever := fun _ _ _ _ _ _ h => h.elim
end

/-! ### targets -/
abbrev TG := V → St → Hp → (St → Hp → Prop) → Prop
abbrev TGs := List V → St → Hp → (St → Hp → Prop) → Prop
def PG (X : Cx) (target : Expr) (t : TG) : Prop :=
  ∀ (pins : List (Addr × Obj)) (s : Shared) (σ : St) (H : Hp) (v : V) (u : Value) (Q : St → Hp → Prop), Inv X pins σ H s → RelV v u → t v σ H Q →
    wpAny (model X.prog X.w) X.A (assign target X.env u) (fun _ s' => ∃ σ' H', Inv X pins σ' H' s' ∧ Q σ' H') X.xe s
/-- several targets, one after another -/
def PGs (X : Cx) (ts : List Expr) (t : TGs) : Prop :=
  ∀ (pins : List (Addr × Obj)) (s : Shared) (σ : St) (H : Hp) (vs : List V) (us : List Value) (Q : St → Hp → Prop), Inv X pins σ H s → Vals vs us → t vs σ H Q →
    wpAny (model X.prog X.w) X.A (assignInOrder ((assignEach ts X.env).map (·.2)) us) (fun _ s' => ∃ σ' H', Inv X pins σ' H' s' ∧ Q σ' H') X.xe s
/-- o[i] = v, by values -/
abbrev TSet := V → V → V → Hp → (Hp → Prop) → Prop
def PSet (X : Cx) (t : TSet) : Prop :=
  ∀ (pins : List (Addr × Obj)) (s : Shared) (σ : St) (H : Hp) (o i v : V) (ov iv u : Value) (Q : Hp → Prop), Inv X pins σ H s → RelV o ov → RelV i iv → RelV v u → t o i v H Q →
    wpAny (model X.prog X.w) X.A (setItem ov iv u) (fun _ s' => ∃ H', Inv X pins σ H' s' ∧ Q H') X.xe s
/-- a op= b, by values -/
abbrev TIp := V → V → Hp → VK → Prop
def PIp (X : Cx) (op : Operator) (t : TIp) : Prop :=
  ∀ (pins : List (Addr × Obj)) (s : Shared) (σ : St) (H : Hp) (x y : V) (v u : Value) (Q : VK), Inv X pins σ H s → RelV x v → RelV y u → t x y H Q →
    wpAny (model X.prog X.w) X.A (inplaceOp op v u) (EP X pins σ Q) X.xe s
section
variable {X : Cx} {pos : Pos}
def gName (i : Nat) : TG := fun v σ H Q => Q (σ.set i (some v)) H
theorem pg_name {i : Nat} {x : Str} (hN : X.N.Nodup) (hi : X.N[i]? = some x) (hx : Loc X.env.scope x) (hf : X.fn x = true ∨ X.env.scope.names.lookup x = some .local := by first | exact .inl rfl | exact .inr rfl | assumption) : PG X (.Name x pos) (gName i) := by
  intro pins s σ H v u Q I r h
  exact wpAny_assign_Name (store_ok I hN hi hx r (fun s' I' => ⟨_, H, I', h⟩) hf)
def gNil : TGs := fun vs σ H Q => vs = [] ∧ Q σ H
def gCons (t : TG) (u : TGs) : TGs := fun vs σ H Q => ∃ v r, vs = v :: r ∧ t v σ H fun σ' H' => u r σ' H' Q
theorem pgs_nil : PGs X [] gNil := by
  intro pins s σ H vs us Q I r h
  obtain ⟨e, h⟩ := h
  subst e
  cases r
  exact assignInOrder_nil ⟨σ, H, I, h⟩
theorem pgs_cons {e : Expr} {es : List Expr} {t : TG} {u : TGs} (h1 : PG X e t) (h2 : PGs X es u)
    (hs : (assignEach (e :: es) X.env).map (·.2) = assign e X.env :: (assignEach es X.env).map (·.2) := by rfl) : PGs X (e :: es) (gCons t u) := by
  intro pins s σ H vs us Q I r h
  obtain ⟨v, vr, e1, h⟩ := h
  subst e1
  cases r with
  | cons r rr =>
    rw [hs]
    refine assignInOrder_cons (thn (h1 pins s σ H _ _ _ I r h) fun _ s1 ⟨σ1, H1, I1, q1⟩ => ?_)
    exact h2 pins s1 σ1 H1 _ _ Q I1 rr q1
/-- (a, b, ..) = a tuple of that length -/
def gTup (K : PySem.W.Frag) (n : Nat) (t : TGs) : TG := fun v σ H Q => ∃ a xs, v = .ref a ∧ SqT K H a xs ∧ xs.length = n ∧ t xs σ H Q
theorem pg_tup {es : List Expr} {k : Nat} {t : TGs} {n : Nat} (hc : X.calm = true) (h : PGs X es t)
    (hn : (assignEach es X.env).length = n := by rfl) (hst : (assignEach es X.env).findIdx? (·.1) = none := by rfl) : PG X (.Tuple es k pos) (gTup X.K n t) := by
  intro pins s σ H v u Q I r hw
  obtain ⟨a, xs, e1, hq, hl, hw⟩ := hw
  subst e1
  cases r
  obtain ⟨its, rv, ht, hz⟩ := I.tuple hq
  refine assign_Tuple_tuple (I.ok.hd hc) ht (by simp [hn, ← hl, rv.length]) hst fun h' hx => ?_
  have I1 : Inv X pins σ H { s with heap := h' } := I.kept (t' := s.toks) fun b o e => hx b o (Nat.ne_of_lt (Heap.lt_size e)) e
  exact h pins _ σ H xs _ Q I1 (by simpa using rv) hw
/-- o[i] = .. -/
def gSub (to ti : TE) (t : TSet) : TG := fun v σ H Q => to σ H fun o H1 => ti σ H1 fun i H2 => t o i v H2 fun H3 => Q σ H3
theorem pg_sub {o i : Expr} {to ti : TE} {t : TSet} (ho : PE X o to) (hi : PE X i ti) (hs : PSet X t)
    (ha : ∀ v, assign (.Subscript o i pos) X.env v = (do
      let ov ← holding [v] (eval o X.env)
      let iv ← holding [v, ov] (eval i X.env)
      standAt pos
      holding [v, ov, iv] (setItem ov iv v)
      release [v, ov, iv] []) := by intro _; rfl) : PG X (.Subscript o i pos) (gSub to ti t) := by
  intro pins s σ H v u Q I r h
  rw [ha]
  refine wpAny_bind (wpAny_holding (thn (ho pins s σ H _ I h) fun ov s1 ⟨x, H1, I1, r1, q1⟩ => ?_))
  refine wpAny_bind (wpAny_holding (thn (hi pins s1 σ H1 _ I1 q1) fun iv s2 ⟨y, H2, I2, r2, q2⟩ => ?_))
  refine wpAny_bind (wpAny_standAt (wpAny_bind (wpAny_holding (thn (hs pins s2 σ H2 x y v ov iv u _ I2 r1 r2 r q2) fun _ s3 ⟨H3, I3, q3⟩ => ?_))))
  exact wpAny_release ⟨σ, H3, I3, q3⟩
/-- target = value -/
def tAsg (te : TE) (g : TG) : TS := fun D σ H => te σ H fun x H1 => g x σ H1 D.nx
theorem ps_asg {tg e : Expr} {te : TE} {g : TG} (he : PE X e te) (hg : PG X tg g) (hs : swapsWithSole [tg] e pos.line X.env = pure false := by rfl) (hw : swappedStores [tg] e X.env = pure none := by rfl)
    (h1 : (assignEach [tg] X.env).map (·.2) = [assign tg X.env] := by rfl) : PS X (.Assign [tg] e pos) (tAsg te g) := by
  intro pins s σ H D I h
  refine wpAny_Assign_stores (thn (he pins s σ H _ I h) fun v s1 ⟨x, H1, I1, r1, q1⟩ => ?_) hs hw
  rw [h1]
  exact thn (hg pins s1 σ H1 x v _ I1 r1 q1) fun _ s2 q => q
/-- name = value -/
theorem ps_set {i : Nat} {x : Str} {e : Expr} {te : TE} {pos' : Pos} (hN : X.N.Nodup) (hi : X.N[i]? = some x) (hx : Loc X.env.scope x) (he : PE X e te) (hs : swapsWith e (some (.Name x pos')) pos.line X.env = pure false := by rfl) (hf : X.fn x = true ∨ X.env.scope.names.lookup x = some .local := by first | exact .inl rfl | exact .inr rfl | assumption) :
    PS X (.Assign [.Name x pos'] e pos) (tAsg te (gName i)) := by
  intro pins s σ H D I h
  refine wpAny_Assign_Name (thn (he pins s σ H _ I h) fun v s1 ⟨y, H1, I1, r1, q1⟩ => ?_) hs
  exact store_ok I1 hN hi hx r1 (fun s2 I2 => ⟨_, H1, I2, q1⟩) hf
/-- a, b = x, y with plain local names: stored from the right; the pair itself is not tracked (the opening rows as in PyProof/Rows/TupAssign.lean:23) -/
def tPar (i j : Nat) (ta : TA) : TS := fun D σ H => ta σ H fun vs H1 => ∃ v w, vs = [v, w] ∧ D.nx ((σ.set i (some v)).set j (some w)) H1
theorem ps_par {i j : Nat} {x y : Str} {a b : Expr} {ta : TA} {px py pt : Pos} {kt k2 pt2} (hc : X.calm = true) (hN : X.N.Nodup) (hi : X.N[i]? = some x) (hj : X.N[j]? = some y) (hij : i ≠ j)
    (hx : X.env.scope.names.lookup x = some .local) (hy : X.env.scope.names.lookup y = some .local) (ha : PA X [a, b] ta)
    (hw : swappedStores [.Tuple [.Name x px, .Name y py] kt pt] (.Tuple [a, b] k2 pt2) X.env = pure (some [x, y]))
    (hs : swapsWithSole [.Tuple [.Name x px, .Name y py] kt pt] (.Tuple [a, b] k2 pt2) pos.line X.env = pure false := by rfl) :
    PS X (.Assign [.Tuple [.Name x px, .Name y py] kt pt] (.Tuple [a, b] k2 pt2) pos) (tPar i j ta) := by
  intro pins s σ H D I h
  rw [exec_Assign_arm]
  refine wpAny_bind (wpAny_standAt ?_)
  rw [hs]
  refine wpAny_bind (wpAny_pure ?_)
  rw [if_neg (by decide)]
  refine wpAny_bind (Tuple_ (thn (ha _ pins s σ H _ I h) fun us s1 ⟨vs, H1, I1, r1, q1⟩ => ?_))
  obtain ⟨v, w, e1, q1⟩ := q1
  subst e1
  obtain ⟨u1, u2, rfl, rv, rw'⟩ : ∃ u1 u2, us = [u1, u2] ∧ RelV v u1 ∧ RelV w u2 := by
    cases r1 with
    | cons p q =>
      cases q with
      | cons p' q' =>
        cases q'
        exact ⟨_, _, rfl, p, p'⟩
  refine wpAny_newObj_type ?_ (by show 2 ≤ sizeLine; decide)
  have I2 : Inv X pins σ H1 { s1 with heap := s1.heap.push { cls := .type "tuple", data := .seq [u1, u2].toArray } } := I1.kept (t' := s1.toks) fun b o e => Heap.get?_push_of_some _ e
  rw [hw]
  refine wpAny_bind (wpAny_pure ?_)
  show wpAny (model X.prog X.w) X.A (do rule "assign.swapped-stores"; let items ← unpackItems (.ref s1.heap.objs.size) 2 none; assignInOrder [fun v => bindName X.env y v, fun v => bindName X.env x v] items.reverse; pure Flow.next) _ _ _
  refine wpAny_bind (wpAny_rule (wpAny_bind (unpackItems_tuple (items := #[u1, u2]) (I.ok.hd hc) (IsTup.new s1.heap _) fun h' hx' => ?_)))
  have I3 := I2.kept (h' := h') (t' := s1.toks) fun b o e => hx' b o (Nat.ne_of_lt (Heap.lt_size e)) e
  show wpAny _ _ (assignInOrder [fun v => bindName X.env y v, fun v => bindName X.env x v] [u2, u1] >>= fun _ => pure Flow.next) _ _ _
  refine wpAny_bind (assignInOrder_cons (wpAny_bindName (store_ok I3 hN hj (.inl hy) rw' (fun s2 I4 => ?_) (.inr hy))))
  refine assignInOrder_cons (wpAny_bindName (store_ok I4 hN hi (.inl hx) rv (fun s3 I5 => assignInOrder_nil (wpAny_pure ?_)) (.inr hx)))
  rw [List.set_comm _ _ (Ne.symm hij)] at I5
  exact ⟨_, H1, I5, q1⟩
/-- name op= e -/
def tAug (i : Nat) (te : TE) (ti : TIp) : TS := fun D σ H => ∃ x, σ[i]? = some (some x) ∧ te σ H fun y H1 => ti x y H1 fun z H2 => D.nx (σ.set i (some z)) H2
theorem ps_aug {i : Nat} {x : Str} {e : Expr} {te : TE} {op : Operator} {ti : TIp} {pos' : Pos} (hN : X.N.Nodup) (hi : X.N[i]? = some x) (hx : Loc X.env.scope x) (he : PE X e te) (ho : PIp X op ti) (hf : X.fn x = true ∨ X.env.scope.names.lookup x = some .local := by first | exact .inl rfl | exact .inr rfl | assumption) :
    PS X (.AugAssign (.Name x pos') op e pos) (tAug i te ti) := by
  intro pins s σ H D I h
  obtain ⟨v, e1, h⟩ := h
  obtain ⟨m, hn, hl⟩ := I.loc
  have vis : Vis X.env.scope x := by rcases hx with k | k; exact .inl k; exact .inr (.inl k)
  obtain ⟨u, r, l⟩ := hl i x v hi e1 vis
  refine wpAny_AugAssign_Name ?_
  have go : wpAny (model X.prog X.w) X.A (eval e X.env) (fun w s₂ => wpAny (model X.prog X.w) X.A (inplaceOp op u w) (fun r s₃ => wpAny (model X.prog X.w) X.A (storeName X.env x r) (fun _ => SP X pins D .next) X.xe s₃) X.xe s₂) X.xe s := by
    refine thn (he pins s σ H _ I h) fun w s1 ⟨y, H1, I1, r1, q1⟩ => ?_
    refine thn (ho pins s1 σ H1 v y u w _ I1 r r1 q1) fun z s2 ⟨zv, H2, I2, r2, q2⟩ => ?_
    exact store_ok I2 hN hi hx r2 (fun s3 I3 => ⟨_, H2, I3, q2⟩) hf
  rcases l with ⟨hk, hm⟩ | ⟨hk, c, hc, hcell⟩
  · exact wpAny_loadName_local I.ok.kind hk hn hm go
  · rcases hk with hk | hk
    · exact wpAny_loadName_cell I.ok.kind hk hc hcell go
    · rcases hx with k | k
      · have : X.env.scope.names.lookup x = some .free := hk
        rw [k] at this; cases this
      · have : X.env.scope.names.lookup x = some .free := hk
        rw [k] at this; cases this
/-- o[i] op= e -/
def tAugS (to ti te : TE) (tget : V → V → Hp → VK → Prop) (tip : TIp) (tset : TSet) : TS := fun D σ H => to σ H fun o H1 => ti σ H1 fun i H2 => tget o i H2 fun x H3 => te σ H3 fun y H4 => tip x y H4 fun z H5 => tset o i z H5 fun H6 => D.nx σ H6
/-- o[i], by values -/
def PGet (X : Cx) (t : V → V → Hp → VK → Prop) : Prop :=
  ∀ (pins : List (Addr × Obj)) (s : Shared) (σ : St) (H : Hp) (o i : V) (ov iv : Value) (Q : VK), Inv X pins σ H s → RelV o ov → RelV i iv → t o i H Q →
    wpAny (model X.prog X.w) X.A (getItem ov iv) (EP X pins σ Q) X.xe s
theorem ps_augS {o i e : Expr} {to ti te : TE} {tget : V → V → Hp → VK → Prop} {tip : TIp} {tset : TSet} {op : Operator} {tpos : Pos} (ho : PE X o to) (hi : PE X i ti) (hg : PGet X tget) (he : PE X e te) (hp : PIp X op tip) (hs : PSet X tset)
    (ha : ∀ ov iv new, augStore i ov iv new = (do holding [new, ov, iv] (setItem ov iv new); release [new, ov, iv] []; pure .next) := by intros; rfl) : PS X (.AugAssign (.Subscript o i tpos) op e pos) (tAugS to ti te tget tip tset) := by
  intro pins s σ H D I h
  refine wpAny_AugAssign_SubscriptAny (thn (ho pins s σ H _ I h) fun ov s1 ⟨x1, H1, I1, r1, q1⟩ => ?_) ha
  refine thn (hi pins s1 σ H1 _ I1 q1) fun iv s2 ⟨x2, H2, I2, r2, q2⟩ => ?_
  refine thn (hg pins s2 σ H2 x1 x2 ov iv _ I2 r1 r2 q2) fun old s3 ⟨x3, H3, I3, r3, q3⟩ => ?_
  refine thn (he pins s3 σ H3 _ I3 q3) fun v s4 ⟨x4, H4, I4, r4, q4⟩ => ?_
  refine thn (hp pins s4 σ H4 x3 x4 old v _ I4 r3 r4 q4) fun new s5 ⟨x5, H5, I5, r5, q5⟩ => ?_
  exact thn (hs pins s5 σ H5 x1 x2 x5 ov iv new _ I5 r1 r2 r5 q5) fun _ s6 ⟨H6, I6, q6⟩ => ⟨σ, H6, I6, q6⟩
/-- ints -/
def ipI (f : Int → Int → Int) : TIp := fun x y H Q => ∃ i j, x = .int i ∧ y = .int j ∧ Q (.int (f i j)) H
theorem ip_add : PIp X .Add (ipI fun i j => i + j) := by
  intro pins s σ H x y v u Q I r1 r2 h
  obtain ⟨i, j, e1, e2, q⟩ := h
  subst e1; subst e2
  obtain ⟨t, rfl⟩ := r1
  obtain ⟨t', rfl⟩ := r2
  exact iadd_int ⟨.int _, H, I.tok _, ⟨_, rfl⟩, q⟩
theorem ip_sub : PIp X .Sub (ipI fun i j => i - j) := by
  intro pins s σ H x y v u Q I r1 r2 h
  obtain ⟨i, j, e1, e2, q⟩ := h
  subst e1; subst e2
  obtain ⟨t, rfl⟩ := r1
  obtain ⟨t', rfl⟩ := r2
  exact isub_int ⟨.int _, H, I.tok _, ⟨_, rfl⟩, q⟩
end

/-! ### while -/
section
variable {X : Cx} {pos : Pos}
/-- the invariant W with its measure -/
def tWhile (c : TT) (tb : TS) : TS := fun D σ H => ∃ W : Nat → St → Hp → Prop, (∃ m, W m σ H) ∧ ∀ m σ H, W m σ H →
  c σ H fun b H1 => if b = true then ∃ N : St → Hp → Prop, (∀ σ' H', N σ' H' → ∃ m', m' < m ∧ W m' σ' H') ∧ tb { D with nx := N, ct := N, bk := D.nx } σ H1 else D.nx σ H1
theorem ps_while {c : Expr} {body : List Stmt} {tc : TT} {tb : TS} (hp : PassesOwn (model X.prog X.w) X.A X.env X.xe) (hc : PT X c tc) (hb : PSs X body tb) : PS X (.While c body [] pos) (tWhile tc tb) := by
  intro pins s σ H D I h
  obtain ⟨W, ⟨m0, w0⟩, turn⟩ := h
  refine wpAny_While (codeAny_whileLoop (fun n s' => ∃ σ' H', Inv X pins σ' H' s' ∧ W n σ' H') ?_ m0 ⟨σ, H, I, w0⟩)
  rintro n s1 ⟨σ1, H1, I1, w1⟩
  refine wpAny_passesOwn hp (thn (hc pins s1 σ1 H1 _ I1 (turn n σ1 H1 w1)) fun b s2 ⟨H2, I2, q2⟩ => ?_)
  cases b with
  | true =>
    obtain ⟨N, hN, q2⟩ := q2
    rw [if_pos rfl]
    refine wpAny_passesOwn hp (thn (hb pins s2 σ1 H2 _ I2 q2) fun f s3 q3 => ?_)
    cases f with
    | next =>
      obtain ⟨σ3, H3, I3, n3⟩ := q3
      obtain ⟨m', hm, w3⟩ := hN σ3 H3 n3
      exact ⟨m', hm, σ3, H3, I3, w3⟩
    | cont =>
      obtain ⟨σ3, H3, I3, n3⟩ := q3
      obtain ⟨m', hm, w3⟩ := hN σ3 H3 n3
      exact ⟨m', hm, σ3, H3, I3, w3⟩
    | brk => exact q3
    | ret v => exact q3
  | false =>
    rw [if_neg Bool.false_ne_true]
    exact wpAny_execs_nil ⟨σ1, H2, I2, q2⟩
end

/-! ### what a loop or a comprehension walks -/
/-- at turn i: it yields x (the heap may grow), or it stops -/
structure It where
  go : Nat → Hp → Prop
  yld : Nat → Hp → V → Hp → Prop
  stop : Nat → Hp → Prop
/-- the iterator's own objects may turn: they are not the frame's, not pinned, younger than the entry (or a comprehension's own) -/
def FpOk (X : Cx) (pins : List (Addr × Obj)) (H : Hp) (b : Addr) : Prop :=
  H b = none ∧ b ≠ X.env.locals ∧ b ∉ X.fs ∧ (b ∈ X.ex ∨ X.s₀.heap.objs.size ≤ b) ∧ (∀ x c, X.env.cells.lookup x = some c → c ≠ b) ∧ ∀ p ∈ X.pn ++ pins, p.1 ≠ b
theorem Inv.fpOk {X : Cx} {pins : List (Addr × Obj)} {σ : St} {H H' : Hp} {s : Shared} {b : Addr} (I : Inv X pins σ H s) (hb : s.heap.objs.size ≤ b) (hn : H' b = none) : FpOk X pins H' b := by
  refine ⟨hn, Nat.ne_of_gt (Nat.lt_of_lt_of_le I.lt hb), I.nofs hb, .inr (Nat.le_trans I.sz hb), fun x c e z => ?_, fun p hp z => ?_⟩
  · obtain ⟨v, q⟩ := I.cell x c e
    exact absurd (Nat.lt_of_lt_of_le q.lt (by rw [z]; exact hb)) (Nat.lt_irrefl _)
  · exact absurd (Nat.lt_of_lt_of_le (Heap.lt_size (I.pin p hp).1) (by rw [z]; exact hb)) (Nat.lt_irrefl _)
structure Turn (P : Program) (w : World) (K : PySem.W.Frag) (tg : Expr) (J : It) (fp : List Addr) (it : Addr) (tn : Nat → Heap → Prop) : Prop where
  mem : it ∈ fp
  obj : ∀ i h, tn i h → ∀ b ∈ fp, ∃ o, h.get? b = some o ∧ ∀ v, o.data ≠ .cell v
  keep : ∀ i h h', tn i h → (∀ b ∈ fp, ∀ o, h.get? b = some o → h'.get? b = some o) → tn i h'
  item : ∀ (X : Cx), X.prog = P → X.w = w → X.K = K → X.calm = true → ∀ (i : Nat) (pins : List (Addr × Obj)) (s : Shared) (σ : St) (H : Hp) (E : Value → Shared → Prop), Inv X pins σ H s → (∀ b ∈ fp, FpOk X pins H b) → tn i s.heap → J.go i H →
    wpAny (model P w) X.A (pyNext (.ref it)) (fun r s1 => ∃ u, r = some u ∧
      wpAny (model P w) X.A (letOwnedTupleGo tg (.ref it) u) (fun _ s2 => ∃ x H', Inv X pins σ H' s2 ∧ RelV x u ∧ J.yld i H x H' ∧ tn (i + 1) s2.heap ∧ ∀ b ∈ fp, H' b = none) E s1) E s
  done : ∀ (X : Cx), X.prog = P → X.w = w → X.K = K → X.calm = true → ∀ (i : Nat) (pins : List (Addr × Obj)) (s : Shared) (σ : St) (H : Hp) (E : Value → Shared → Prop), Inv X pins σ H s → (∀ b ∈ fp, FpOk X pins H b) → tn i s.heap → J.stop i H →
    wpAny (model P w) X.A (pyNext (.ref it)) (fun r s1 => r = none ∧ Inv X pins σ H s1) E s
  self : ∀ (A : Around) (i : Nat) (s : Shared) (Q : Value → Shared → Prop) (E : Value → Shared → Prop), tn i s.heap → Q (.ref it) s → wpAny (model P w) A (pyIter (.ref it)) Q E s
abbrev TI := St → Hp → (It → Hp → Prop) → Prop
/-- an iterator has come -/
def PIE (X : Cx) (pins : List (Addr × Obj)) (σ : St) (tg : Expr) (R : It → Hp → Prop) (itv : Value) (s2 : Shared) : Prop :=
  ∃ (it : Addr) (fp : List Addr) (tn : Nat → Heap → Prop) (J : It) (H' : Hp), itv = .ref it ∧ Inv X pins σ H' s2 ∧ Turn X.prog X.w X.K tg J fp it tn ∧ tn 0 s2.heap ∧ (∀ b ∈ fp, FpOk X pins H' b) ∧ R J H'
def PI (X : Cx) (tg iter : Expr) (wi : TI) : Prop :=
  ∀ (pins : List (Addr × Obj)) (s : Shared) (σ : St) (H : Hp) (R : It → Hp → Prop), Inv X pins σ H s → wi σ H R →
    wpAny (model X.prog X.w) X.A (eval iter X.env) (fun v s1 => wpAny (model X.prog X.w) X.A (pyIter v) (PIE X pins σ tg R) X.xe s1) X.xe s

/-- the step ahead of the store is nothing for an iterator that keeps no tuple -/
theorem go_of {M : Model} {A : Around} {E : Value → Shared → Prop} {s : Shared} {tg : Expr} {it : Addr} {u : Value} {o : Obj} {n : String} {vs : Array Value} {Q : Unit → Shared → Prop} (ho : s.heap.get? it = some o) (hc : o.cls = .type n) (hd : o.data = .fields vs)
    (hn : ["enumerate", "zip", "dict_itemiterator", "dict_reverseitemiterator", "odict_iterator", "itertools.zip_longest", "itertools.pairwise"].contains n = false) (hQ : Q () s) : wpAny M A (letOwnedTupleGo tg (.ref it) u) Q E s := by
  unfold letOwnedTupleGo
  cases tg <;> first
    | exact wpAny_pure hQ
    | (cases u <;> first
        | exact wpAny_pure hQ
        | (refine wpAny_bind (wpAny_load ho ?_)
           rw [hc, hd]
           show wpAny M A (if (["enumerate", "zip", "dict_itemiterator", "dict_reverseitemiterator", "odict_iterator", "itertools.zip_longest", "itertools.pairwise"].contains n && vs[0]? == some (rawInt _)) = true then _ else _) Q E s
           rw [if_neg (by intro h; rw [hn, Bool.false_and] at h; cases h)]
           exact wpAny_pure hQ))

/-- the list at a, as it stands at each turn (a loop may append to it) -/
def Itl (K : PySem.W.Frag) (a : Addr) : It :=
  ⟨fun i H => ∃ xs x, SqL K H a xs ∧ xs[i]? = some x, fun i H x H' => H' = H ∧ ∀ xs, SqL K H a xs → xs[i]? = some x, fun i H => ∃ xs, SqL K H a xs ∧ xs.length ≤ i⟩
def Itt (K : PySem.W.Frag) (a : Addr) : It :=
  ⟨fun i H => ∃ xs x, SqT K H a xs ∧ xs[i]? = some x, fun i H x H' => H' = H ∧ ∀ xs, SqT K H a xs → xs[i]? = some x, fun i H => ∃ xs, SqT K H a xs ∧ xs.length ≤ i⟩
/-- lo, lo + 1, .. (n of them) -/
def Itr (lo : Int) (n : Nat) : It := ⟨fun i _ => i < n, fun i H x H' => H' = H ∧ x = .int (lo + i), fun i _ => n ≤ i⟩
theorem turn_list {P : Program} {w : World} {K : PySem.W.Frag} {tg : Expr} (a it : Addr) : Turn P w K tg (Itl K a) [it] it (fun i h => h.IsListIter it a i) where
  mem := by simp
  obj := fun i h st b hb => by
    have e : b = it := by simpa using hb
    subst e
    obtain ⟨o, e, c, d⟩ := st
    exact ⟨o, e, fun v z => by rw [d] at z; cases z⟩
  keep := fun i h h' st k => st.at fun o e => k it (by simp) o e
  item := by
    intro X hP hw hK hc i pins s σ H E I hf st hg
    subst hP hw hK
    obtain ⟨xs, x, hq, hx⟩ := hg
    obtain ⟨its, rv, p, hz⟩ := I.list hq
    obtain ⟨u, hu, ru⟩ := rv.get hx
    obtain ⟨f0, f1, f2, f3, f4, f5⟩ := hf it (by simp)
    refine wpAny_pyNext_list_item st p.isList (x := u) (by simpa using hu) fun h' st' sb => ?_
    have I1 : Inv X pins σ H { s with heap := h' } := I.turned (t' := s.toks) (fun b o hb e => (sb.2 b hb).trans e) f0 f1 f3 f4 f5
    obtain ⟨o, e, c, d⟩ := id st'
    exact ⟨u, rfl, go_of (s := { s with heap := h' }) e c d (by decide) ⟨x, H, I1, ru, ⟨rfl, fun ys hy => by rw [I.list_inj hy hq]; exact hx⟩, st', fun b hb => (hf b hb).1⟩⟩
  done := by
    intro X hP hw hK hc i pins s σ H E I hf st hg
    subst hP hw hK
    obtain ⟨xs, hq, hx⟩ := hg
    obtain ⟨its, rv, p, hz⟩ := I.list hq
    obtain ⟨f0, f1, f2, f3, f4, f5⟩ := hf it (by simp)
    have hl := rv.length
    exact wpAny_pyNext_list_end (I.ok.hd hc) st p.isList (by simp; omega) fun h' eb => ⟨rfl, I.turned (t' := s.toks) (fun b o hb e => eb b o hb e) f0 f1 f3 f4 f5⟩
  self := fun _ _ _ _ _ st h => wpAny_pyIter_listiter st h
theorem turn_tuple {P : Program} {w : World} {K : PySem.W.Frag} {tg : Expr} (a it : Addr) : Turn P w K tg (Itt K a) [it] it (fun i h => h.IsTupleIter it a i) where
  mem := by simp
  obj := fun i h st b hb => by
    have e : b = it := by simpa using hb
    subst e
    obtain ⟨o, e, c, d⟩ := st
    exact ⟨o, e, fun v z => by rw [d] at z; cases z⟩
  keep := fun i h h' st k => st.at fun o e => k it (by simp) o e
  item := by
    intro X hP hw hK hc i pins s σ H E I hf st hg
    subst hP hw hK
    obtain ⟨xs, x, hq, hx⟩ := hg
    obtain ⟨its, rv, p, hz⟩ := I.tuple hq
    obtain ⟨u, hu, ru⟩ := rv.get hx
    obtain ⟨f0, f1, f2, f3, f4, f5⟩ := hf it (by simp)
    refine wpAny_pyNext_tuple_item st (show s.heap.IsTuple a its.toArray from p) (x := u) (by simpa using hu) fun h' st' sb => ?_
    have I1 : Inv X pins σ H { s with heap := h' } := I.turned (t' := s.toks) (fun b o hb e => (sb.2 b hb).trans e) f0 f1 f3 f4 f5
    obtain ⟨o, e, c, d⟩ := id st'
    exact ⟨u, rfl, go_of (s := { s with heap := h' }) e c d (by decide) ⟨x, H, I1, ru, ⟨rfl, fun ys hy => by rw [I.tuple_inj hy hq]; exact hx⟩, st', fun b hb => (hf b hb).1⟩⟩
  done := by
    intro X hP hw hK hc i pins s σ H E I hf st hg
    subst hP hw hK
    obtain ⟨xs, hq, hx⟩ := hg
    obtain ⟨its, rv, p, hz⟩ := I.tuple hq
    obtain ⟨f0, f1, f2, f3, f4, f5⟩ := hf it (by simp)
    have hl := rv.length
    exact wpAny_pyNext_tuple_end (I.ok.hd hc) st (show s.heap.IsTuple a its.toArray from p) (by simp; omega) fun h' eb => ⟨rfl, I.turned (t' := s.toks) (fun b o hb e => eb b o hb e) f0 f1 f3 f4 f5⟩
  self := fun _ _ _ _ _ st h => wpAny_pyIter_tupleiter st h
theorem turn_range {P : Program} {w : World} {K : PySem.W.Frag} {tg : Expr} (it : Addr) (lo : Int) (n : Nat) : Turn P w K tg (Itr lo n) [it] it (fun i h => IsRangeIter h it (lo + (i : Nat) * 1) ((n : Int) - (i : Nat)) 1) where
  mem := by simp
  obj := fun i h st b hb => by
    have e : b = it := by simpa using hb
    subst e
    exact ⟨_, st, fun v z => by
      have z' : Data.fields _ = Data.cell v := z
      cases z'⟩
  keep := fun i h h' st k => k it (by simp) _ st
  item := by
    intro X hP hw hK hc i pins s σ H E I hf st hg
    subst hP hw hK
    obtain ⟨f0, f1, f2, f3, f4, f5⟩ := hf it (by simp)
    have W := Walks.range (prog := X.prog) (w := X.w) (I.ok.hd hc) it lo 1 n
    refine W.item i s _ _ hg st fun v h' tk hv st' kk => ?_
    obtain ⟨t, rfl⟩ := hv
    have I1 : Inv X pins σ H { s with heap := h', toks := tk } := I.turned (fun b o hb e => kk b o (by simpa using hb) e) f0 f1 f3 f4 f5
    refine ⟨_, rfl, go_of (s := { s with heap := h', toks := tk }) (n := "range_iterator") st' rfl rfl (by decide) ⟨.int (lo + i), H, I1, ⟨t, ?_⟩, ⟨rfl, rfl⟩, st', fun b hb => (hf b hb).1⟩⟩
    rw [Int.mul_one]
  done := by
    intro X hP hw hK hc i pins s σ H E I hf st hg
    subst hP hw hK
    obtain ⟨f0, f1, f2, f3, f4, f5⟩ := hf it (by simp)
    exact wpAny_pyNext_range_end (I.ok.hd hc) st (by have : n ≤ i := hg; omega) fun h' eb => ⟨rfl, I.turned (t' := s.toks) (fun b o hb e => eb b o hb e) f0 f1 f3 f4 f5⟩
  self := fun _ _ _ _ _ st h => wpAny_pyIter_rangeiter st h
end L2

namespace L2
open PySem PySem.Spec PyProof.Rows
section
variable {X : Cx} {tg : Expr}
def iList (K : PySem.W.Frag) (tl : TE) : TI := fun σ H R => tl σ H fun x H1 => ∃ a, x = .ref a ∧ (∃ xs, SqL K H1 a xs) ∧ R (Itl K a) H1
def iTup (K : PySem.W.Frag) (tl : TE) : TI := fun σ H R => tl σ H fun x H1 => ∃ a, x = .ref a ∧ (∃ xs, SqT K H1 a xs) ∧ R (Itt K a) H1
theorem pi_list {l : Expr} {tl : TE} (hl : PE X l tl) : PI X tg l (iList X.K tl) := by
  intro pins s σ H R I h
  refine thn (hl pins s σ H _ I h) fun v s1 ⟨x, H1, I1, r1, q1⟩ => ?_
  obtain ⟨a, e, ⟨xs, hq⟩, q⟩ := q1
  subst e
  cases r1
  obtain ⟨its, rv, p, hz⟩ := I1.list hq
  refine wpAny_pyIter_list p.isList ?_
  refine ⟨s1.heap.objs.size, [s1.heap.objs.size], _, _, H1, rfl, I1.kept (t' := s1.toks) fun b o e => Heap.get?_push_of_some _ e, turn_list a _, ⟨_, Heap.get?_push_size _ rfl, rfl, rfl⟩, fun b hb => ?_, q⟩
  have e : b = s1.heap.objs.size := by simpa using hb
  subst e
  exact I1.fpOk (Nat.le_refl _) (I1.hok.fresh (Nat.le_refl _))
theorem pi_tup {l : Expr} {tl : TE} (hl : PE X l tl) : PI X tg l (iTup X.K tl) := by
  intro pins s σ H R I h
  refine thn (hl pins s σ H _ I h) fun v s1 ⟨x, H1, I1, r1, q1⟩ => ?_
  obtain ⟨a, e, ⟨xs, hq⟩, q⟩ := q1
  subst e
  cases r1
  obtain ⟨its, rv, p, hz⟩ := I1.tuple hq
  refine wpAny_pyIter_tuple (show s1.heap.IsTuple a its.toArray from p) ?_
  refine ⟨s1.heap.objs.size, [s1.heap.objs.size], _, _, H1, rfl, I1.kept (t' := s1.toks) fun b o e => Heap.get?_push_of_some _ e, turn_tuple a _, ⟨_, Heap.get?_push_size _ rfl, rfl, rfl⟩, fun b hb => ?_, q⟩
  have e : b = s1.heap.objs.size := by simpa using hb
  subst e
  exact I1.fpOk (Nat.le_refl _) (I1.hok.fresh (Nat.le_refl _))
/-- a range object just made, walked -/
theorem range_it {pins : List (Addr × Obj)} {σ : St} {H : Hp} {s : Shared} {R : It → Hp → Prop} {E : Value → Shared → Prop} {lo hi : Int} {t u v : Tok} {tk : Nat} (I : Inv X pins σ H s) (h1 : -(2 ^ 62) ≤ lo) (h2 : lo < 2 ^ 62) (h3 : -(2 ^ 62) ≤ hi) (h4 : hi < 2 ^ 62)
    (q : R (Itr lo (hi - lo).toNat) H) : wpAny (model X.prog X.w) X.A (pyIter (.ref s.heap.objs.size)) (PIE X pins σ tg R) E { s with heap := s.heap.push { cls := .type "range", data := .fields #[.int lo t, .int hi u, .int 1 v] }, toks := tk } := by
  refine wpAny_pyIter_range (IsRange.new ..) (small_one h1 h2 h3 h4) ?_
  have I1 : Inv X pins σ H { s with heap := s.heap.push { cls := .type "range", data := .fields #[.int lo t, .int hi u, .int 1 v] }, toks := tk } := I.kept fun b o e => Heap.get?_push_of_some _ e
  refine ⟨(s.heap.push { cls := .type "range", data := .fields #[.int lo t, .int hi u, .int 1 v] }).objs.size, [(s.heap.push { cls := .type "range", data := .fields #[.int lo t, .int hi u, .int 1 v] }).objs.size], _, _, H, rfl,
    I1.kept (t' := tk) fun b o e => Heap.get?_push_of_some _ e, turn_range _ lo (hi - lo).toNat, ?_, fun b hb => ?_, q⟩
  · have e1 : lo + ((0 : Nat) : Int) * 1 = lo := by simp
    have e2 : (((hi - lo).toNat : Nat) : Int) - ((0 : Nat) : Int) = Builtin.Range.rangeSize lo hi 1 := by rw [rangeSize_one]; split <;> omega
    show IsRangeIter _ _ (lo + ((0 : Nat) : Int) * 1) ((((hi - lo).toNat : Nat) : Int) - ((0 : Nat) : Int)) 1
    rw [e1, e2]
    exact Heap.get?_push_size _ rfl
  · have e : b = (s.heap.push { cls := .type "range", data := .fields #[.int lo t, .int hi u, .int 1 v] }).objs.size := by simpa using hb
    subst e
    exact I1.fpOk (Nat.le_refl _) (I1.hok.fresh (Nat.le_refl _))
def iRng1 (ta : TA) : TI := fun σ H R => ta σ H fun vs H1 => ∃ j : Int, vs = [.int j] ∧ -(2 ^ 62) ≤ j ∧ j < 2 ^ 62 ∧ R (Itr 0 j.toNat) H1
def iRng2 (ta : TA) : TI := fun σ H R => ta σ H fun vs H1 => ∃ i j : Int, vs = [.int i, .int j] ∧ (-(2 ^ 62) ≤ i ∧ i < 2 ^ 62 ∧ -(2 ^ 62) ≤ j ∧ j < 2 ^ 62) ∧ R (Itr i (j - i).toNat) H1
theorem pi_range1 {a : Expr} {ta : TA} {p pos : Pos} (hg : Gl X "range") (hm : X.mg "range" = none) (ha : PA X [a] ta) (hs : starEach [a] X.env = [(false, eval a X.env)] := by rfl) : PI X tg (.Call (.Name "range" p) [a] [] pos) (iRng1 ta) := by
  intro pins s σ H R I h
  refine Call_ (ld_blt I hg hm boot_range (PyProof.Rows.callWith_type1 (thn (ha pos pins s σ H _ I h) fun us s1 ⟨vs, H1, I1, r1, q1⟩ => ?_) hs rfl))
  obtain ⟨j, e, q1, q2, q⟩ := q1
  subst e
  cases r1 with
  | cons r rr =>
    cases rr
    obtain ⟨t, rfl⟩ := r
    exact call_range_1 (range_it I1 (by omega) (by omega) q1 q2 (by simpa using q))
theorem pi_range2 {a b : Expr} {ta : TA} {p pos : Pos} (hg : Gl X "range") (hm : X.mg "range" = none) (ha : PA X [a, b] ta) (hs : starEach [a, b] X.env = [(false, eval a X.env), (false, eval b X.env)] := by rfl) (hs2 : starEach [b] X.env = [(false, eval b X.env)] := by rfl) :
    PI X tg (.Call (.Name "range" p) [a, b] [] pos) (iRng2 ta) := by
  intro pins s σ H R I h
  refine Call_ (ld_blt I hg hm boot_range (PyProof.Rows.callWith_type1 (thn (ha pos pins s σ H _ I h) fun us s1 ⟨vs, H1, I1, r1, q1⟩ => ?_) (by rw [hs, hs2]) (by rw [hs2]; rfl)))
  obtain ⟨i, j, e, ⟨q1, q2, q3, q4⟩, q⟩ := q1
  subst e
  cases r1 with
  | cons r rr =>
    cases rr with
    | cons r' rr =>
      cases rr
      obtain ⟨t, rfl⟩ := r
      obtain ⟨t', rfl⟩ := r'
      exact call_range_2 (range_it I1 q1 q2 q3 q4 q)

/-! ### for -/
/-- W: the invariant by the turn and a measure; N: what the body is to reach -/
def tFor (wi : TI) (g : TG) (tb : TS) : TS := fun D σ H => wi σ H fun J H1 => ∃ W : Nat → Nat → St → Hp → Prop, (∃ m, W 0 m σ H1) ∧ ∀ i m σ H, W i m σ H →
  (J.stop i H ∧ D.nx σ H) ∨ (J.go i H ∧ ∃ N : St → Hp → Prop, (∀ σ' H', N σ' H' → ∃ m', m' < m ∧ W (i + 1) m' σ' H') ∧ ∀ x H', J.yld i H x H' → g x σ H' fun σ2 H2 => tb { D with nx := N, ct := N, bk := D.nx } σ2 H2)
/-- the records at fp as they stand -/
def pinsAt (fp : List Addr) (h : Heap) : List (Addr × Obj) := fp.filterMap fun b => (h.get? b).map fun o => (b, o)
theorem mem_pinsAt {fp : List Addr} {h : Heap} {b : Addr} {o : Obj} (hb : b ∈ fp) (e : h.get? b = some o) : (b, o) ∈ pinsAt fp h := List.mem_filterMap.mpr ⟨b, hb, by rw [e]; rfl⟩
theorem of_pinsAt {fp : List Addr} {h : Heap} {p : Addr × Obj} (hp : p ∈ pinsAt fp h) : p.1 ∈ fp ∧ h.get? p.1 = some p.2 := by
  obtain ⟨b, hb, e⟩ := List.mem_filterMap.mp hp
  cases q : h.get? b with
  | none => rw [q] at e; cases e
  | some o =>
    rw [q] at e
    have e' : (b, o) = p := Option.some.inj e
    subst e'
    exact ⟨hb, q⟩
theorem Inv.pinned {pins : List (Addr × Obj)} {σ : St} {H : Hp} {s : Shared} {fp : List Addr} (I : Inv X pins σ H s) (hf : ∀ b ∈ fp, FpOk X pins H b) (ho : ∀ b ∈ fp, ∃ o, s.heap.get? b = some o ∧ ∀ v, o.data ≠ .cell v) : Inv X (pins ++ pinsAt fp s.heap) σ H s :=
  I.pins_of fun p hp => (List.mem_append.mp hp).elim (fun z => I.pin p (List.mem_append_right _ z)) fun z => by
    obtain ⟨hb, e⟩ := of_pinsAt z
    obtain ⟨f0, f1, f2, _⟩ := hf p.1 hb
    obtain ⟨o, e', d⟩ := ho p.1 hb
    rw [e] at e'; cases e'
    exact ⟨e, f0, f1, f2, d⟩
theorem Inv.unpinned {pins pl : List (Addr × Obj)} {σ : St} {H : Hp} {s : Shared} (I : Inv X (pins ++ pl) σ H s) : Inv X pins σ H s := I.pins_of fun p hp => I.pin p (List.mem_append_right _ (List.mem_append_left _ hp))
theorem ps_for {iter : Expr} {body : List Stmt} {wi : TI} {g : TG} {tb : TS} {pos : Pos} (hp : PassesOwn (model X.prog X.w) X.A X.env X.xe) (hc : X.calm = true) (hi : PI X tg iter wi) (hg : PG X tg g) (hb : PSs X body tb)
    (hs : ∀ x, foldedSetIterable iter X.env x = pure x := by intro _; rfl) : PS X (.For tg iter body [] pos) (tFor wi g tb) := by
  intro pins s σ H D I h
  refine wpAny_For (thn (hi pins s σ H _ I h) fun v s1 h1 => thn h1 fun itv s2 h2 => ?_) hs
  obtain ⟨it, fp, tn, J, H2, e, I2, T, st2, f2, W, ⟨m0, w0⟩, turn⟩ := h2
  subst e
  -- what stays true of the iterator's objects through the loop
  have stat : ∀ {H' : Hp}, (∀ b ∈ fp, H' b = none) → ∀ b ∈ fp, FpOk X pins H' b := fun hn b hb => ⟨hn b hb, (f2 b hb).2⟩
  refine codeAny_forLoop_any (fun n s' => ∃ i σ' H', Inv X pins σ' H' s' ∧ tn i s'.heap ∧ (∀ b ∈ fp, H' b = none) ∧ W i n σ' H') ?_ m0 ⟨0, σ, H2, I2, st2, fun b hb => (f2 b hb).1, w0⟩
  rintro n s3 ⟨i, σ3, H3, I3, st3, fr3, w3⟩
  rcases turn i n σ3 H3 w3 with ⟨stop, qn⟩ | ⟨go, N, hN, step⟩
  · refine wpAny_passesOwn hp (thn (T.done X rfl rfl rfl hc i pins s3 σ3 H3 X.xe I3 (stat fr3) st3 stop) fun r s4 ⟨hr, I4⟩ => ?_)
    subst hr
    exact wpAny_execs_nil ⟨σ3, H3, I4, qn⟩
  · refine wpAny_passesOwn hp (thn (T.item X rfl rfl rfl hc i pins s3 σ3 H3 X.xe I3 (stat fr3) st3 go) fun r s4 ⟨u, hr, h4⟩ => ?_)
    subst hr
    refine wpAny_passesOwn hp (thn h4 fun _ s5 ⟨x, H5, I5, r5, y5, st5, fr5⟩ => ?_)
    have I5' := I5.pinned (stat fr5) (T.obj _ _ st5)
    refine wpAny_passesOwn hp (thn (hg _ s5 σ3 H5 x u _ I5' r5 (step x H5 y5)) fun _ s6 ⟨σ6, H6, I6, q6⟩ => ?_)
    refine wpAny_passesOwn hp (thn (hb _ s6 σ6 H6 _ I6 q6) fun f s7 q7 => ?_)
    have again : ∀ {σ7 : St} {H7 : Hp}, Inv X (pins ++ pinsAt fp s5.heap) σ7 H7 s7 → N σ7 H7 → ∃ m, m < n ∧ ∃ i σ' H', Inv X pins σ' H' s7 ∧ tn i s7.heap ∧ (∀ b ∈ fp, H' b = none) ∧ W i m σ' H' := fun {σ7 H7} I7 n7 => by
      obtain ⟨m', hm, w7⟩ := hN σ7 H7 n7
      refine ⟨m', hm, i + 1, σ7, H7, I7.unpinned, T.keep _ _ _ st5 fun b hb o e => (I7.pin (b, o) (List.mem_append_right _ (List.mem_append_right _ (mem_pinsAt hb e)))).1, fun b hb => ?_, w7⟩
      obtain ⟨o, e, d⟩ := T.obj _ _ st5 b hb
      exact (I7.pin (b, o) (List.mem_append_right _ (List.mem_append_right _ (mem_pinsAt hb e)))).2.1
    cases f with
    | next => obtain ⟨σ7, H7, I7, n7⟩ := q7; exact again I7 n7
    | cont => obtain ⟨σ7, H7, I7, n7⟩ := q7; exact again I7 n7
    | brk => obtain ⟨σ7, H7, I7, q7⟩ := q7; exact ⟨σ7, H7, I7.unpinned, q7⟩
    | ret v => obtain ⟨x7, σ7, H7, I7, r7, q7⟩ := q7; exact ⟨x7, σ7, H7, I7.unpinned, r7, q7⟩
end

/-! ### the forms one uses -/
/-- over a list that the body leaves as it is -/
theorem for_list {K : PySem.W.Frag} {a : Addr} {xs : List V} {g : TG} {tb : TS} {D : Ends} {σ : St} {H : Hp} (Pv : Nat → St → Hp → Prop) (h0 : Pv 0 σ H) (hl : ∀ i σ H, i ≤ xs.length → Pv i σ H → SqL K H a xs)
    (hs : ∀ i x σ H, xs[i]? = some x → Pv i σ H → g x σ H fun σ2 H2 => tb { D with nx := Pv (i + 1), ct := Pv (i + 1), bk := D.nx } σ2 H2) (hd : ∀ σ H, Pv xs.length σ H → D.nx σ H) :
    ∃ W : Nat → Nat → St → Hp → Prop, (∃ m, W 0 m σ H) ∧ ∀ i m σ H, W i m σ H →
      ((Itl K a).stop i H ∧ D.nx σ H) ∨ ((Itl K a).go i H ∧ ∃ N : St → Hp → Prop, (∀ σ' H', N σ' H' → ∃ m', m' < m ∧ W (i + 1) m' σ' H') ∧ ∀ x H', (Itl K a).yld i H x H' → g x σ H' fun σ2 H2 => tb { D with nx := N, ct := N, bk := D.nx } σ2 H2) := by
  refine ⟨fun i m σ H => m = xs.length - i ∧ i ≤ xs.length ∧ Pv i σ H, ⟨xs.length, by simp, Nat.zero_le _, h0⟩, ?_⟩
  rintro i m σ H ⟨rfl, hi, p⟩
  have q := hl i σ H hi p
  by_cases hlt : i < xs.length
  · refine .inr ⟨⟨xs, xs[i], q, by simp [hlt]⟩, Pv (i + 1), fun σ' H' p' => ⟨xs.length - (i + 1), by omega, rfl, hlt, p'⟩, fun x H' y => ?_⟩
    obtain ⟨e, y⟩ := y
    subst e
    exact hs i x σ _ (y xs q) p
  · have e : i = xs.length := by omega
    subst e
    exact .inl ⟨⟨xs, q, Nat.le_refl _⟩, hd σ H p⟩
theorem for_tup {K : PySem.W.Frag} {a : Addr} {xs : List V} {g : TG} {tb : TS} {D : Ends} {σ : St} {H : Hp} (Pv : Nat → St → Hp → Prop) (h0 : Pv 0 σ H) (hl : ∀ i σ H, i ≤ xs.length → Pv i σ H → SqT K H a xs)
    (hs : ∀ i x σ H, xs[i]? = some x → Pv i σ H → g x σ H fun σ2 H2 => tb { D with nx := Pv (i + 1), ct := Pv (i + 1), bk := D.nx } σ2 H2) (hd : ∀ σ H, Pv xs.length σ H → D.nx σ H) :
    ∃ W : Nat → Nat → St → Hp → Prop, (∃ m, W 0 m σ H) ∧ ∀ i m σ H, W i m σ H →
      ((Itt K a).stop i H ∧ D.nx σ H) ∨ ((Itt K a).go i H ∧ ∃ N : St → Hp → Prop, (∀ σ' H', N σ' H' → ∃ m', m' < m ∧ W (i + 1) m' σ' H') ∧ ∀ x H', (Itt K a).yld i H x H' → g x σ H' fun σ2 H2 => tb { D with nx := N, ct := N, bk := D.nx } σ2 H2) := by
  refine ⟨fun i m σ H => m = xs.length - i ∧ i ≤ xs.length ∧ Pv i σ H, ⟨xs.length, by simp, Nat.zero_le _, h0⟩, ?_⟩
  rintro i m σ H ⟨rfl, hi, p⟩
  have q := hl i σ H hi p
  by_cases hlt : i < xs.length
  · refine .inr ⟨⟨xs, xs[i], q, by simp [hlt]⟩, Pv (i + 1), fun σ' H' p' => ⟨xs.length - (i + 1), by omega, rfl, hlt, p'⟩, fun x H' y => ?_⟩
    obtain ⟨e, y⟩ := y
    subst e
    exact hs i x σ _ (y xs q) p
  · have e : i = xs.length := by omega
    subst e
    exact .inl ⟨⟨xs, q, Nat.le_refl _⟩, hd σ H p⟩
theorem for_range {lo : Int} {n : Nat} {g : TG} {tb : TS} {D : Ends} {σ : St} {H : Hp} (Pv : Nat → St → Hp → Prop) (h0 : Pv 0 σ H)
    (hs : ∀ i σ H, i < n → Pv i σ H → g (.int (lo + i)) σ H fun σ2 H2 => tb { D with nx := Pv (i + 1), ct := Pv (i + 1), bk := D.nx } σ2 H2) (hd : ∀ σ H, Pv n σ H → D.nx σ H) :
    ∃ W : Nat → Nat → St → Hp → Prop, (∃ m, W 0 m σ H) ∧ ∀ i m σ H, W i m σ H →
      ((Itr lo n).stop i H ∧ D.nx σ H) ∨ ((Itr lo n).go i H ∧ ∃ N : St → Hp → Prop, (∀ σ' H', N σ' H' → ∃ m', m' < m ∧ W (i + 1) m' σ' H') ∧ ∀ x H', (Itr lo n).yld i H x H' → g x σ H' fun σ2 H2 => tb { D with nx := N, ct := N, bk := D.nx } σ2 H2) := by
  refine ⟨fun i m σ H => m = n - i ∧ i ≤ n ∧ Pv i σ H, ⟨n, by simp, Nat.zero_le _, h0⟩, ?_⟩
  rintro i m σ H ⟨rfl, hi, p⟩
  by_cases hlt : i < n
  · refine .inr ⟨hlt, Pv (i + 1), fun σ' H' p' => ⟨n - (i + 1), by omega, rfl, hlt, p'⟩, fun x H' y => ?_⟩
    obtain ⟨e, y⟩ := y
    subst e y
    exact hs i σ _ hlt p
  · have e : i = n := by omega
    subst e
    exact .inl ⟨Nat.le_refl _, hd σ H p⟩
/-- while, by a word and a measure of the state -/
theorem while_by {c : TT} {tb : TS} {D : Ends} {σ : St} {H : Hp} (Pv : St → Hp → Prop) (μ : St → Hp → Nat) (h0 : Pv σ H)
    (hs : ∀ σ H, Pv σ H → c σ H fun b H1 => if b = true then tb { D with nx := fun σ' H' => Pv σ' H' ∧ μ σ' H' < μ σ H, ct := fun σ' H' => Pv σ' H' ∧ μ σ' H' < μ σ H, bk := D.nx } σ H1 else D.nx σ H1)
    (mono : ∀ σ H Q Q', (∀ b H1, Q b H1 → Q' b H1) → c σ H Q → c σ H Q') : tWhile c tb D σ H := by
  refine ⟨fun m σ H => m = μ σ H ∧ Pv σ H, ⟨_, rfl, h0⟩, ?_⟩
  rintro m σ H ⟨rfl, p⟩
  refine mono σ H _ _ (fun b H1 q => ?_) (hs σ H p)
  cases b with
  | true => exact ⟨_, fun σ' H' ⟨p', l⟩ => ⟨_, l, rfl, p'⟩, q⟩
  | false => exact q
end L2

namespace L2
open PySem PySem.Spec PyProof.Rows

abbrev R2 := V → V → Hp → VK → Prop
/-- a two-place operation on values: f is binaryOp op, inplaceOp op or compareOp op -/
def OpR (X : Cx) (f : Value → Value → Sem Value) (r : R2) : Prop :=
  ∀ (pins : List (Addr × Obj)) (s : Shared) (σ : St) (H : Hp) (x y : V) (v u : Value) (Q : VK), Inv X pins σ H s → RelV x v → RelV y u → r x y H Q →
    wpAny (model X.prog X.w) X.A (f v u) (EP X pins σ Q) X.xe s
/-- a one-place operation -/
def UnR (X : Cx) (f : Value → Sem Value) (r : V → Hp → VK → Prop) : Prop :=
  ∀ (pins : List (Addr × Obj)) (s : Shared) (σ : St) (H : Hp) (x : V) (v : Value) (Q : VK), Inv X pins σ H s → RelV x v → r x H Q →
    wpAny (model X.prog X.w) X.A (f v) (EP X pins σ Q) X.xe s
/-- a call of a value that is known (a builtin, a type) with values -/
def CallR (X : Cx) (f : Value) (r : List V → Hp → VK → Prop) : Prop :=
  ∀ (pins : List (Addr × Obj)) (s : Shared) (σ : St) (H : Hp) (xs : List V) (us : List Value) (Q : VK), Inv X pins σ H s → Vals xs us → r xs H Q →
    wpAny (model X.prog X.w) X.A (call f us) (EP X pins σ Q) X.xe s
/-- a value's truth -/
def TruR (X : Cx) (r : V → Hp → (Bool → Hp → Prop) → Prop) : Prop :=
  ∀ (pins : List (Addr × Obj)) (s : Shared) (σ : St) (H : Hp) (x : V) (v : Value) (Q : Bool → Hp → Prop), Inv X pins σ H s → RelV x v → r x H Q →
    wpAny (model X.prog X.w) X.A (truthy v) (TP X pins σ Q) X.xe s

def tOp (r : R2) (ta tb : TE) : TE := fun σ H Q => ta σ H fun x H1 => tb σ H1 fun y H2 => r x y H2 Q
def tUn (r : V → Hp → VK → Prop) (ta : TE) : TE := fun σ H Q => ta σ H fun x H1 => r x H1 Q
/-- ints in, under C, and a value out -/
def rI (C : Int → Int → Prop) (g : Int → Int → V) : R2 := fun x y H Q => ∃ i j, x = .int i ∧ y = .int j ∧ C i j ∧ Q (g i j) H
def rI0 (g : Int → Int → V) : R2 := fun x y H Q => ∃ i j, x = .int i ∧ y = .int j ∧ Q (g i j) H
def rU (g : Int → V) : V → Hp → VK → Prop := fun x H Q => ∃ i, x = .int i ∧ Q (g i) H

section
variable {X : Cx} {a b c : Expr} {ta tb tc : TE} {pos : Pos}

theorem binT (ha : PE X a ta) (hb : PE X b tb) {pins : List (Addr × Obj)} {s : Shared} {σ : St} {H : Hp} {R : V → V → Hp → Prop} (I : Inv X pins σ H s)
    (h : ta σ H fun x H1 => tb σ H1 fun y H2 => R x y H2) {Q : Value → Shared → Prop} {f : Value → Value → Sem Value}
    (hf : ∀ v u s2 x y H2, Inv X pins σ H2 s2 → RelV x v → RelV y u → R x y H2 → wpAny (model X.prog X.w) X.A (f v u) Q X.xe s2) :
    wpAny (model X.prog X.w) X.A (eval a X.env) (fun v s₁ => wpAny (model X.prog X.w) X.A (eval b X.env) (fun u s₂ => wpAny (model X.prog X.w) X.A (f v u) Q X.xe s₂) X.xe s₁) X.xe s := by
  refine thn (ha pins s σ H _ I h) fun v s1 ⟨x, H1, I1, r1, q1⟩ => ?_
  refine thn (hb pins s1 σ H1 _ I1 q1) fun u s2 ⟨y, H2, I2, r2, q2⟩ => ?_
  exact hf v u s2 x y H2 I2 r1 r2 q2

theorem pe_op {op : Operator} {r : R2} (ho : OpR X (binaryOp op) r) (ha : PE X a ta) (hb : PE X b tb) : PE X (.BinOp a op b pos) (tOp r ta tb) := by
  intro pins s σ H Q I h
  exact wpAny_BinOp (binT ha hb I h fun v u s2 x y H2 I2 rx ry q => ho pins s2 σ H2 x y v u Q I2 rx ry q)
theorem pe_un {op : UnaryOp} {r : V → Hp → VK → Prop} (ho : UnR X (unaryOp op) r) (ha : PE X a ta) : PE X (.UnaryOp op a pos) (tUn r ta) := by
  intro pins s σ H Q I h
  exact UnaryOp_ (thn (ha pins s σ H _ I h) fun v s1 ⟨x, H1, I1, r1, q1⟩ => ho pins s1 σ H1 x v Q I1 r1 q1)
/-- a op= e at a name: the name's slot i -/
theorem augR {op : Operator} {r : R2} (ho : OpR X (inplaceOp op) r) {pins : List (Addr × Obj)} {s : Shared} {σ : St} {H : Hp} {x y : V} {v u : Value} {Q : VK} (I : Inv X pins σ H s)
    (rx : RelV x v) (ry : RelV y u) (q : r x y H Q) : wpAny (model X.prog X.w) X.A (inplaceOp op v u) (EP X pins σ Q) X.xe s := ho pins s σ H x y v u Q I rx ry q

/-! ### ints -/
theorem opI {f : Value → Value → Sem Value} {C : Int → Int → Prop} {g : Int → Int → Int}
    (rule : ∀ (i j : Int) (t u : Tok) (s : Shared) (Q : Value → Shared → Prop) (E : Value → Shared → Prop), C i j → Q (.int (g i j) s.toks) { s with toks := s.toks + 1 } → wpAny (model X.prog X.w) X.A (f (.int i t) (.int j u)) Q E s) :
    OpR X f (rI C fun i j => .int (g i j)) := by
  intro pins s σ H x y v u Q I rx ry h
  obtain ⟨i, j, rfl, rfl, hc, q⟩ := h
  obtain ⟨t, rfl⟩ := rx
  obtain ⟨t', rfl⟩ := ry
  exact rule i j t t' s _ _ hc ⟨.int (g i j), H, I.tok _, ⟨_, rfl⟩, q⟩
theorem opI0 {f : Value → Value → Sem Value} {g : Int → Int → Int}
    (rule : ∀ (i j : Int) (t u : Tok) (s : Shared) (Q : Value → Shared → Prop) (E : Value → Shared → Prop), Q (.int (g i j) s.toks) { s with toks := s.toks + 1 } → wpAny (model X.prog X.w) X.A (f (.int i t) (.int j u)) Q E s) :
    OpR X f (rI0 fun i j => .int (g i j)) := by
  intro pins s σ H x y v u Q I rx ry h
  obtain ⟨i, j, rfl, rfl, q⟩ := h
  obtain ⟨t, rfl⟩ := rx
  obtain ⟨t', rfl⟩ := ry
  exact rule i j t t' s _ _ ⟨.int (g i j), H, I.tok _, ⟨_, rfl⟩, q⟩
theorem opB0 {f : Value → Value → Sem Value} {g : Int → Int → Bool}
    (rule : ∀ (i j : Int) (t u : Tok) (s : Shared) (Q : Value → Shared → Prop) (E : Value → Shared → Prop), Q (.bool (g i j)) s → wpAny (model X.prog X.w) X.A (f (.int i t) (.int j u)) Q E s) :
    OpR X f (rI0 fun i j => .bl (g i j)) := by
  intro pins s σ H x y v u Q I rx ry h
  obtain ⟨i, j, rfl, rfl, q⟩ := h
  obtain ⟨t, rfl⟩ := rx
  obtain ⟨t', rfl⟩ := ry
  exact rule i j t t' s _ _ ⟨.bl (g i j), H, I, rfl, q⟩

def CDiv (i j : Int) : Prop := 0 < j ∧ j < 1073741824
def CDivN (i j : Int) : Prop := j ≠ 0 ∧ j.natAbs < 1073741824
def CPow (i j : Int) : Prop := 0 ≤ j ∧ j ≤ 1000000 ∧ i.natAbs < 2 ^ 64
def CMul (i j : Int) : Prop := (-(2 ^ 64) < i ∧ i < 2 ^ 64) ∨ (-(2 ^ 64) < j ∧ j < 2 ^ 64)
theorem CMul.ok {i j : Int} (h : CMul i j) : IntMulOk i j := by
  rcases h with ⟨h1, h2⟩ | ⟨h1, h2⟩
  · exact .of_left (intBits_le_64 h1 h2)
  · exact .of_right (intBits_le_64 h1 h2)
theorem two_pow_nn (k : Nat) : (0 : Int) ≤ 2 ^ k := by
  rw [two_pow_cast]
  exact Int.natCast_nonneg _

theorem op_add : OpR X (binaryOp .Add) (rI0 fun i j => .int (i + j)) := opI0 fun _ _ _ _ _ _ _ q => add_int q
theorem op_sub : OpR X (binaryOp .Sub) (rI0 fun i j => .int (i - j)) := opI0 fun _ _ _ _ _ _ _ q => sub_int q
theorem op_mul : OpR X (binaryOp .Mult) (rI CMul fun i j => .int (i * j)) := opI fun _ _ _ _ _ _ _ hc q => mul_int q hc.ok
/-- // by a positive divisor -/
theorem op_fdiv : OpR X (binaryOp .FloorDiv) (rI CDiv fun i j => .int (i / j)) := opI fun i j _ _ _ _ _ hc q => by
  have h1 : (0 : Int) < j := hc.1
  have h2 : j < 1073741824 := hc.2
  exact floordiv_int (by omega) (by rw [Int.fdiv_eq_ediv_of_nonneg i (by omega)]; exact q) (.inl (PyProof.noPylong_small (by omega)))
theorem op_fdivN : OpR X (binaryOp .FloorDiv) (rI CDivN fun i j => .int (i.fdiv j)) := opI fun _ _ _ _ _ _ _ hc q => floordiv_int hc.1 q (.inl (PyProof.noPylong_small hc.2))
/-- % by a positive divisor of any size -/
theorem op_mod : OpR X (binaryOp .Mod) (rI (fun _ j => 0 < j) fun i j => .int (i % j)) := opI fun i j _ _ _ _ _ hc q => by
  have h1 : (0 : Int) < j := hc
  exact mod_int' (by omega) (by rw [Int.fmod_eq_emod_of_nonneg i (by omega)]; exact q)
theorem op_modN : OpR X (binaryOp .Mod) (rI (fun _ j => j ≠ 0) fun i j => .int (i.fmod j)) := opI fun _ _ _ _ _ _ _ hc q => mod_int' hc q
theorem op_pow : OpR X (binaryOp .Pow) (rI CPow fun i j => .int (i ^ j.toNat)) := opI fun _ _ _ _ _ _ _ hc q => pow_int_small hc.1 hc.2.1 hc.2.2 q
theorem op_shl : OpR X (binaryOp .LShift) (rI CPow fun i j => .int (i * 2 ^ j.toNat)) := opI fun _ _ _ _ _ _ _ hc q => lshift_int_small hc.1 hc.2.1 hc.2.2 q
theorem op_shr : OpR X (binaryOp .RShift) (rI (fun _ j => 0 ≤ j) fun i j => .int (i / 2 ^ j.toNat)) := opI fun i j _ _ _ _ _ hc q =>
  rshift_int hc (by rw [Int.fdiv_eq_ediv_of_nonneg i (two_pow_nn _)]; exact q)
theorem op_and : OpR X (binaryOp .BitAnd) (rI0 fun i j => .int (Builtin.bitAnd i j)) := opI0 fun _ _ _ _ _ _ _ q => and_int q
theorem op_or : OpR X (binaryOp .BitOr) (rI0 fun i j => .int (Builtin.bitOr i j)) := opI0 fun _ _ _ _ _ _ _ q => or_int q
theorem op_xor : OpR X (binaryOp .BitXor) (rI0 fun i j => .int (Builtin.bitXor i j)) := opI0 fun _ _ _ _ _ _ _ q => xor_int q

theorem iop_add : OpR X (inplaceOp .Add) (rI0 fun i j => .int (i + j)) := opI0 fun _ _ _ _ _ _ _ q => iadd_int q
theorem iop_sub : OpR X (inplaceOp .Sub) (rI0 fun i j => .int (i - j)) := opI0 fun _ _ _ _ _ _ _ q => isub_int q
theorem iop_mul : OpR X (inplaceOp .Mult) (rI CMul fun i j => .int (i * j)) := opI fun _ _ _ _ _ _ _ hc q => imul_int q hc.ok
theorem iop_fdiv : OpR X (inplaceOp .FloorDiv) (rI CDiv fun i j => .int (i / j)) := opI fun i j _ _ _ _ _ hc q => by
  have h1 : (0 : Int) < j := hc.1
  have h2 : j < 1073741824 := hc.2
  exact ifloordiv_int (by omega) (by rw [Int.fdiv_eq_ediv_of_nonneg i (by omega)]; exact q) (.inl (PyProof.noPylong_small (by omega)))
theorem iop_mod : OpR X (inplaceOp .Mod) (rI (fun _ j => 0 < j) fun i j => .int (i % j)) := opI fun i j _ _ _ _ _ hc q => by
  have h1 : (0 : Int) < j := hc
  exact imod_int (by omega) (by rw [Int.fmod_eq_emod_of_nonneg i (by omega)]; exact q)
theorem iop_shl : OpR X (inplaceOp .LShift) (rI CPow fun i j => .int (i * 2 ^ j.toNat)) := opI fun _ _ _ _ _ _ _ hc q => ilshift_int_small hc.1 hc.2.1 hc.2.2 q
theorem iop_shr : OpR X (inplaceOp .RShift) (rI (fun _ j => 0 ≤ j) fun i j => .int (i / 2 ^ j.toNat)) := opI fun i j _ _ _ _ _ hc q =>
  irshift_int hc (by rw [Int.fdiv_eq_ediv_of_nonneg i (two_pow_nn _)]; exact q)
theorem iop_and : OpR X (inplaceOp .BitAnd) (rI0 fun i j => .int (Builtin.bitAnd i j)) := opI0 fun _ _ _ _ _ _ _ q => iand_int q
theorem iop_or : OpR X (inplaceOp .BitOr) (rI0 fun i j => .int (Builtin.bitOr i j)) := opI0 fun _ _ _ _ _ _ _ q => ior_int q
theorem iop_xor : OpR X (inplaceOp .BitXor) (rI0 fun i j => .int (Builtin.bitXor i j)) := opI0 fun _ _ _ _ _ _ _ q => ixor_int q

theorem unI {f : Value → Sem Value} {g : Int → Int}
    (rule : ∀ (i : Int) (t : Tok) (s : Shared) (Q : Value → Shared → Prop) (E : Value → Shared → Prop), Q (.int (g i) s.toks) { s with toks := s.toks + 1 } → wpAny (model X.prog X.w) X.A (f (.int i t)) Q E s) :
    UnR X f (rU fun i => .int (g i)) := by
  intro pins s σ H x v Q I rx h
  obtain ⟨i, rfl, q⟩ := h
  obtain ⟨t, rfl⟩ := rx
  exact rule i t s _ _ ⟨.int (g i), H, I.tok _, ⟨_, rfl⟩, q⟩
theorem un_neg : UnR X (unaryOp .USub) (rU fun i => .int (-i)) := unI fun _ _ _ _ _ q => neg_int q
theorem un_inv : UnR X (unaryOp .Invert) (rU fun i => .int (Builtin.bitNot i)) := unI fun _ _ _ _ _ q => invert_int q

/-! ### bools among ints: n += (a < b) -/
theorem op_add_ib : OpR X (binaryOp .Add) (fun x y H Q => ∃ i k, x = .int i ∧ y = .bl k ∧ Q (.int (i + b2i k)) H) := by
  intro pins s σ H x y v u Q I rx ry h
  obtain ⟨i, k, rfl, rfl, q⟩ := h
  obtain ⟨t, rfl⟩ := rx
  cases ry
  exact add_int_bool ⟨.int (i + b2i k), H, I.tok _, ⟨_, rfl⟩, q⟩
end

/-! ### comparisons -/
/-- the scalars that == tells apart as data does -/
def scal : V → V → Bool
  | .non, .non => true | .non, .int _ => true | .int _, .non => true | .non, .bl _ => true | .bl _, .non => true | .non, .str _ => true | .str _, .non => true
  | .int _, .int _ => true | .bl _, .bl _ => true | .str _, .str _ => true | .byt _, .byt _ => true
  | .int _, .str _ => true | .str _, .int _ => true | .bl _, .str _ => true | .str _, .bl _ => true
  | _, _ => false
def rEq : R2 := fun x y H Q => scal x y = true ∧ Q (.bl (decide (x = y))) H
def rNe : R2 := fun x y H Q => scal x y = true ∧ Q (.bl (!decide (x = y))) H

theorem dec_int {i j : Int} : decide (V.int i = V.int j) = (i == j) := by
  rw [Bool.eq_iff_iff]
  simp
theorem dec_bl {i j : Bool} : decide (V.bl i = V.bl j) = (i == j) := by
  rw [Bool.eq_iff_iff]
  simp
theorem dec_str {i j : Str} : decide (V.str i = V.str j) = (i == j) := by
  rw [Bool.eq_iff_iff]
  simp
theorem dec_byt {i j : Array UInt8} : decide (V.byt i = V.byt j) = (i.toList == j.toList) := by
  rw [Bool.eq_iff_iff]
  cases i
  cases j
  simp

section
variable {X : Cx} {a b c : Expr} {ta tb tc : TE} {pos : Pos}
theorem fin_bl {pins : List (Addr × Obj)} {σ : St} {H : Hp} {s : Shared} {Q : VK} {k k' : Bool} (I : Inv X pins σ H s) (q : Q (.bl k) H) (e : k = k') : EP X pins σ Q (.bool k') s := by
  subst e
  exact ⟨.bl k, H, I, rfl, q⟩
theorem op_eq : OpR X (compareOp .Eq) rEq := by
  intro pins s σ H x y v u Q I rx ry h
  obtain ⟨hs, q⟩ := h
  cases x with
  | non =>
    cases rx
    cases y with
    | non => cases ry; exact PySem.EqNone.eq_none_none (fin_bl I q (by simp))
    | bl j => cases ry; exact PySem.EqNone.eq_none_bool (fin_bl I q (by simp))
    | int j => obtain ⟨t', rfl⟩ := ry; exact PySem.EqNone.eq_none_int (fin_bl I q (by simp))
    | str j => obtain ⟨t', rfl⟩ := ry; exact PySem.EqNone.eq_none_str (fin_bl I q (by simp))
    | _ => exact absurd (show false = true from hs) Bool.false_ne_true
  | bl i =>
    cases rx
    cases y with
    | non => cases ry; exact PySem.EqNone.eq_bool_none (fin_bl I q (by simp))
    | bl j => cases ry; exact eq_bool (fin_bl I q dec_bl)
    | str j => obtain ⟨t', rfl⟩ := ry; exact PySem.EqMixed.eq_bool_str (fin_bl I q (by simp))
    | _ => exact absurd (show false = true from hs) Bool.false_ne_true
  | int i =>
    obtain ⟨t, rfl⟩ := rx
    cases y with
    | non => cases ry; exact PySem.EqNone.eq_int_none (fin_bl I q (by simp))
    | int j => obtain ⟨t', rfl⟩ := ry; exact eq_int (fin_bl I q dec_int)
    | str j => obtain ⟨t', rfl⟩ := ry; exact PySem.EqMixed.eq_int_str (fin_bl I q (by simp))
    | _ => exact absurd (show false = true from hs) Bool.false_ne_true
  | str i =>
    obtain ⟨t, rfl⟩ := rx
    cases y with
    | non => cases ry; exact PySem.EqNone.eq_str_none (fin_bl I q (by simp))
    | bl j => cases ry; exact PySem.EqMixed.eq_str_bool (fin_bl I q (by simp))
    | int j => obtain ⟨t', rfl⟩ := ry; exact PySem.EqMixed.eq_str_int (fin_bl I q (by simp))
    | str j => obtain ⟨t', rfl⟩ := ry; exact eq_str (fin_bl I q dec_str)
    | _ => exact absurd (show false = true from hs) Bool.false_ne_true
  | byt i =>
    obtain ⟨t, rfl⟩ := rx
    cases y with
    | byt j => obtain ⟨t', rfl⟩ := ry; exact PySem.W.eq_bytes (fin_bl I q dec_byt)
    | _ => exact absurd (show false = true from hs) Bool.false_ne_true
  | _ => cases y <;> exact absurd (show false = true from hs) Bool.false_ne_true
theorem op_ne : OpR X (compareOp .NotEq) rNe := by
  intro pins s σ H x y v u Q I rx ry h
  obtain ⟨hs, q⟩ := h
  cases x with
  | non =>
    cases rx
    cases y with
    | non => cases ry; exact PySem.EqNone.ne_none_none (fin_bl I q (by simp))
    | bl j => cases ry; exact PySem.EqNone.ne_none_bool (fin_bl I q (by simp))
    | int j => obtain ⟨t', rfl⟩ := ry; exact PySem.EqNone.ne_none_int (fin_bl I q (by simp))
    | str j => obtain ⟨t', rfl⟩ := ry; exact PySem.EqNone.ne_none_str (fin_bl I q (by simp))
    | _ => exact absurd (show false = true from hs) Bool.false_ne_true
  | bl i =>
    cases rx
    cases y with
    | non => cases ry; exact PySem.EqNone.ne_bool_none (fin_bl I q (by simp))
    | bl j => cases ry; exact ne_bool (fin_bl I q (congrArg not dec_bl))
    | str j => obtain ⟨t', rfl⟩ := ry; exact PySem.EqMixed.ne_bool_str (fin_bl I q (by simp))
    | _ => exact absurd (show false = true from hs) Bool.false_ne_true
  | int i =>
    obtain ⟨t, rfl⟩ := rx
    cases y with
    | non => cases ry; exact PySem.EqNone.ne_int_none (fin_bl I q (by simp))
    | int j => obtain ⟨t', rfl⟩ := ry; exact ne_int (fin_bl I q (congrArg not dec_int))
    | str j => obtain ⟨t', rfl⟩ := ry; exact PySem.EqMixed.ne_int_str (fin_bl I q (by simp))
    | _ => exact absurd (show false = true from hs) Bool.false_ne_true
  | str i =>
    obtain ⟨t, rfl⟩ := rx
    cases y with
    | non => cases ry; exact PySem.EqNone.ne_str_none (fin_bl I q (by simp))
    | bl j => cases ry; exact PySem.EqMixed.ne_str_bool (fin_bl I q (by simp))
    | int j => obtain ⟨t', rfl⟩ := ry; exact PySem.EqMixed.ne_str_int (fin_bl I q (by simp))
    | str j => obtain ⟨t', rfl⟩ := ry; exact ne_str (fin_bl I q (congrArg not dec_str))
    | _ => exact absurd (show false = true from hs) Bool.false_ne_true
  | byt i =>
    obtain ⟨t, rfl⟩ := rx
    cases y with
    | byt j => obtain ⟨t', rfl⟩ := ry; exact PySem.W.ne_bytes (fin_bl I q (congrArg not dec_byt))
    | _ => exact absurd (show false = true from hs) Bool.false_ne_true
  | _ => cases y <;> exact absurd (show false = true from hs) Bool.false_ne_true

theorem op_lt : OpR X (compareOp .Lt) (rI0 fun i j => .bl (decide (i < j))) := opB0 fun _ _ _ _ _ _ _ q => lt_int q
theorem op_le : OpR X (compareOp .LtE) (rI0 fun i j => .bl (decide (i ≤ j))) := opB0 fun _ _ _ _ _ _ _ q => le_int q
theorem op_gt : OpR X (compareOp .Gt) (rI0 fun i j => .bl (decide (j < i))) := opB0 fun _ _ _ _ _ _ _ q => gt_int q
theorem op_ge : OpR X (compareOp .GtE) (rI0 fun i j => .bl (decide (j ≤ i))) := opB0 fun _ _ _ _ _ _ _ q => ge_int q
theorem op_lt_str : OpR X (compareOp .Lt) (fun x y H Q => ∃ i j, x = .str i ∧ y = .str j ∧ Q (.bl (decide (i.cps.toList < j.cps.toList))) H) := by
  intro pins s σ H x y v u Q I rx ry h
  obtain ⟨i, j, rfl, rfl, q⟩ := h
  obtain ⟨t, rfl⟩ := rx
  obtain ⟨t', rfl⟩ := ry
  exact lt_str (fin_bl I q rfl)
/-- the one string within the other -/
theorem op_in_str : OpR X (compareOp .In) (fun x y H Q => ∃ i j, x = .str i ∧ y = .str j ∧ Q (.bl (!(Builtin.Str.occurrences j i 0 j.length 1).isEmpty)) H) := by
  intro pins s σ H x y v u Q I rx ry h
  obtain ⟨i, j, rfl, rfl, q⟩ := h
  obtain ⟨t, rfl⟩ := rx
  obtain ⟨t', rfl⟩ := ry
  exact in_str (fin_bl I q rfl)

/-- is None, is not None: the right side a value none -/
theorem op_isN : OpR X (compareOp .Is) (fun x y H Q => y = .non ∧ Q (.bl (decide (x = .non))) H) := by
  intro pins s σ H x y v u Q I rx ry h
  obtain ⟨rfl, q⟩ := h
  cases ry
  refine is_none_gen (fin_bl I q ?_)
  cases x <;> first
    | (cases rx; rfl)
    | (obtain ⟨t, rfl⟩ := rx; rfl)
theorem op_notN : OpR X (compareOp .IsNot) (fun x y H Q => y = .non ∧ Q (.bl (!decide (x = .non))) H) := by
  intro pins s σ H x y v u Q I rx ry h
  obtain ⟨rfl, q⟩ := h
  cases ry
  refine isnot_none_gen (fin_bl I q ?_)
  cases x <;> first
    | (cases rx; rfl)
    | (obtain ⟨t, rfl⟩ := rx; rfl)

theorem op_notin_str : OpR X (compareOp .NotIn) (fun x y H Q => ∃ i j, x = .str i ∧ y = .str j ∧ Q (.bl (!(!(Builtin.Str.occurrences j i 0 j.length 1).isEmpty))) H) := by
  intro pins s σ H x y v u Q I rx ry h
  obtain ⟨i, j, rfl, rfl, q⟩ := h
  obtain ⟨t, rfl⟩ := rx
  obtain ⟨t', rfl⟩ := ry
  exact notIn_str (fin_bl I q rfl)
/-- is, is not of two objects that are tracked lists or instances -/
def isObj : HO → Bool
  | .lst _ => true
  | .ins _ _ _ => true
  | _ => false
theorem obj_there {pins : List (Addr × Obj)} {s : Shared} {σ : St} {H : Hp} {a : Addr} {o : HO} (I : Inv X pins σ H s) (h : H a = some o) (p : isObj o = true) : ∃ ob, s.heap.get? a = some ob ∧ ob.cls ≠ .type "tuple" := by
  cases o with
  | lst xs =>
    obtain ⟨_, its, n, _, e⟩ : xs.length ≤ sizeLine ∧ ∃ (its : List Value) (n : Nat), Vals xs its ∧ s.heap.get? a = some { cls := .type "list", data := .seq its.toArray n } := I.hok a _ h
    exact ⟨_, e, (by show Value.type "list" ≠ .type "tuple"; decide +kernel)⟩
  | ins C dx fs =>
    have x := I.hok a _ h
    obtain ⟨_, _, _, e, _⟩ := x
    exact ⟨_, e, (by show Value.ref C ≠ .type "tuple"; exact fun z => by cases z)⟩
  | _ => exact absurd (show false = true from p) Bool.false_ne_true
theorem op_is_ref : OpR X (compareOp .Is) (fun x y H Q => ∃ a b oa ob, x = .ref a ∧ y = .ref b ∧ H a = some oa ∧ isObj oa = true ∧ H b = some ob ∧ isObj ob = true ∧ Q (.bl (decide (a = b))) H) := by
  intro pins s σ H x y v u Q I rx ry h
  obtain ⟨a, b, oa, ob, rfl, rfl, ha, pa, hb, pb, q⟩ := h
  cases rx
  cases ry
  obtain ⟨o1, e1, n1⟩ := obj_there I ha pa
  obtain ⟨o2, e2, _⟩ := obj_there I hb pb
  by_cases z : a = b
  · subst z
    exact wpAny_is_ref_self (fin_bl I q (by simp))
  · exact wpAny_is_ref_other z e1 e2 n1 (fin_bl I q (by simp [z]))
theorem op_isnot_ref : OpR X (compareOp .IsNot) (fun x y H Q => ∃ a b oa ob, x = .ref a ∧ y = .ref b ∧ H a = some oa ∧ isObj oa = true ∧ H b = some ob ∧ isObj ob = true ∧ Q (.bl (!decide (a = b))) H) := by
  intro pins s σ H x y v u Q I rx ry h
  obtain ⟨a, b, oa, ob, rfl, rfl, ha, pa, hb, pb, q⟩ := h
  cases rx
  cases ry
  obtain ⟨o1, e1, n1⟩ := obj_there I ha pa
  obtain ⟨o2, e2, _⟩ := obj_there I hb pb
  by_cases z : a = b
  · subst z
    exact wpAny_isNot_ref_self (fin_bl I q (by simp))
  · exact wpAny_isNot_ref_other z e1 e2 n1 (fin_bl I q (by simp [z]))

/-- two rules for one operation: by cases -/
theorem OpR.or {f : Value → Value → Sem Value} {r r' : R2} (h : OpR X f r) (h' : OpR X f r') : OpR X f (fun x y H Q => r x y H Q ∨ r' x y H Q) := by
  intro pins s σ H x y v u Q I rx ry q
  rcases q with q | q
  · exact h pins s σ H x y v u Q I rx ry q
  · exact h' pins s σ H x y v u Q I rx ry q

theorem nomark (b : Expr) {op : CmpOp} (h : op ≠ .In := by decide) (h2 : op ≠ .NotIn := by decide) : behindInMarks op b = false := by
  have e1 : (op == CmpOp.In) = false := by cases op <;> first | rfl | exact absurd rfl h
  have e2 : (op == CmpOp.NotIn) = false := by cases op <;> first | rfl | exact absurd rfl h2
  cases b <;> simp [behindInMarks, e1, e2]
/-- a comparison as a value; hm: nomark b, or (for in, not in) by with_unfolding_all rfl -/
theorem pe_cmpR {op : CmpOp} {r : R2} (ho : OpR X (compareOp op) r) (ha : PE X a ta) (hb : PE X b tb) (hm : behindInMarks op b = false) : PE X (.Compare a [op] [b] pos) (tOp r ta tb) := by
  intro pins s σ H Q I h
  exact wpAny_Compare1 (binT ha hb I h fun v u s2 x y H2 I2 rx ry q => ho pins s2 σ H2 x y v u Q I2 rx ry q) hm
/-- a reading of a value as a test -/
def tTest (t : TE) : TT := fun σ H Q => t σ H fun x H' => ∃ k, x = .bl k ∧ Q k H'
theorem pt_cmpR {op : CmpOp} {r : R2} (ho : OpR X (compareOp op) r) (ha : PE X a ta) (hb : PE X b tb) (hm : behindInMarks op b = false) : PT X (.Compare a [op] [b] pos) (tTest (tOp r ta tb)) := by
  intro pins s σ H Q I h
  refine wpAny_isTrue_Compare1 (thn (ha pins s σ H _ I h) fun v s1 ⟨x, H1, I1, r1, q1⟩ => thn (hb pins s1 σ H1 _ I1 q1) fun u s2 ⟨y, H2, I2, r2, q2⟩ =>
    thn (ho pins s2 σ H2 x y v u _ I2 r1 r2 q2) fun c s3 ⟨z, H3, I3, r3, k, e, q3⟩ => ?_) hm
  subst e
  cases r3
  exact wpAny_truthy_bool ⟨H3, I3, q3⟩
/-- a op1 b op2 c -/
def tChain (r r' : R2) (ta tb tc : TE) : TE := fun σ H Q => ta σ H fun x H1 => tb σ H1 fun y H2 => r x y H2 fun z H3 => ∃ k, z = .bl k ∧
  (if k = true then tc σ H3 fun w' H4 => r' y w' H4 Q else Q (.bl false) H3)
theorem pe_chain {op op' : CmpOp} {r r' : R2} (ho : OpR X (compareOp op) r) (ho' : OpR X (compareOp op') r') (ha : PE X a ta) (hb : PE X b tb) (hc : PE X c tc)
    (hm : lastMarks [op, op'] [b, c] = false := by with_unfolding_all rfl) : PE X (.Compare a [op, op'] [b, c] pos) (tChain r r' ta tb tc) := by
  intro pins s σ H Q I h
  refine Compare_chain (thn (ha pins s σ H _ I h) fun v s1 ⟨x, H1, I1, r1, q1⟩ => chain_link (thn (hb pins s1 σ H1 _ I1 q1) fun u s2 ⟨y, H2, I2, r2, q2⟩ =>
    thn (ho pins s2 σ H2 x y v u _ I2 r1 r2 q2) fun d s3 ⟨z, H3, I3, r3, k, e, q3⟩ => ?_)) hm
  subst e
  cases r3
  refine wpAny_truthy_bool ?_
  cases k with
  | false => exact ite_ff ⟨.bl false, H3, I3, rfl, q3⟩
  | true => exact ite_tt (chain_last (thn (hc pins s3 σ H3 _ I3 q3) fun w' s4 ⟨z', H4, I4, r4, q4⟩ => ho' pins s4 σ H4 y z' u w' Q I4 r2 r4 q4))
theorem pt_chain {op op' : CmpOp} {r r' : R2} (ho : OpR X (compareOp op) r) (ho' : OpR X (compareOp op') r') (ha : PE X a ta) (hb : PE X b tb) (hc : PE X c tc)
    (hm : lastMarks [op, op'] [b, c] = false := by with_unfolding_all rfl) : PT X (.Compare a [op, op'] [b, c] pos) (tTest (tChain r r' ta tb tc)) := by
  intro pins s σ H Q I h
  refine isTrue_chain (thn (ha pins s σ H _ I h) fun v s1 ⟨x, H1, I1, r1, q1⟩ => test_link (thn (hb pins s1 σ H1 _ I1 q1) fun u s2 ⟨y, H2, I2, r2, q2⟩ =>
    thn (ho pins s2 σ H2 x y v u _ I2 r1 r2 q2) fun d s3 ⟨z, H3, I3, r3, k, e, q3⟩ => ?_)) hm
  subst e
  cases r3
  refine wpAny_truthy_bool ?_
  cases k with
  | false =>
    obtain ⟨k', e', q'⟩ := q3
    cases e'
    exact ite_ff ⟨H3, I3, q'⟩
  | true =>
    refine ite_tt (test_last (thn (hc pins s3 σ H3 _ I3 q3) fun w' s4 ⟨z', H4, I4, r4, q4⟩ => thn (ho' pins s4 σ H4 y z' u w' _ I4 r2 r4 q4) fun d' s5 ⟨z2, H5, I5, r5, k2, e2, q5⟩ => ?_))
    subst e2
    cases r5
    exact wpAny_truthy_bool ⟨H5, I5, q5⟩

/-! ### truth -/
/-- a value's truth by the abstract heap -/
def TruV (K : PySem.W.Frag) (x : V) (H : Hp) (k : Bool) : Prop :=
  match x with
  | .non => k = false
  | .bl b => k = b
  | .int i => k = (i != 0)
  | .str y => y.length ≤ sizeLine ∧ k = ((y.length : Int) != 0)
  | .byt y => y.size ≤ sizeLine ∧ k = ((y.size : Int) != 0)
  | .ref p => (∃ xs, SqL K H p xs ∧ k = !xs.isEmpty) ∨ (∃ xs, SqT K H p xs ∧ k = !xs.isEmpty) ∨ ∃ kvs, H p = some (.dK kvs) ∧ k = !kvs.isEmpty
  | _ => False
theorem isEmpty_kv {κ : Type} {kvs : List (κ × V)} {vs : List (κ × Value)} (r : KV kvs vs) : (!vs.isEmpty) = !kvs.isEmpty := by
  cases r <;> rfl
theorem isEmpty_of {xs : List V} {its : List Value} (r : Vals xs its) : (!its.toArray.isEmpty) = !xs.isEmpty := by
  cases r <;> simp
theorem line63 : (sizeLine : Nat) < 2 ^ 63 := by rw [sizeLine_eq]; decide
theorem tru_ok : TruR X (fun x H Q => ∃ k, TruV X.K x H k ∧ Q k H) := by
  intro pins s σ H x v Q I rx h
  obtain ⟨k, e, q⟩ := h
  have hl := line63
  have hs : sizeLine = 16777216 := sizeLine_eq
  cases x with
  | non =>
    cases rx
    have e' : k = false := e
    subst e'
    exact truthy_none ⟨H, I, q⟩
  | bl b =>
    cases rx
    have e' : k = b := e
    subst e'
    exact wpAny_truthy_bool ⟨H, I, q⟩
  | int i =>
    obtain ⟨t, rfl⟩ := rx
    have e' : k = (i != 0) := e
    subst e'
    exact PySem.P.truthy_int ⟨H, I, q⟩
  | str y =>
    obtain ⟨t, rfl⟩ := rx
    obtain ⟨hy, e'⟩ : y.length ≤ sizeLine ∧ k = ((y.length : Int) != 0) := e
    subst e'
    exact PySem.P.truthy_str (by omega) ⟨H, I.tok _, q⟩
  | byt y =>
    obtain ⟨t, rfl⟩ := rx
    obtain ⟨hy, e'⟩ : y.size ≤ sizeLine ∧ k = ((y.size : Int) != 0) := e
    subst e'
    exact PySem.W.truthy_bytes (by omega) ⟨H, I.tok _, q⟩
  | ref p =>
    cases rx
    have e' : (∃ xs, SqL X.K H p xs ∧ k = !xs.isEmpty) ∨ (∃ xs, SqT X.K H p xs ∧ k = !xs.isEmpty) ∨ ∃ kvs, H p = some (.dK kvs) ∧ k = !kvs.isEmpty := e
    rcases e' with ⟨xs, hx, e'⟩ | ⟨xs, hx, e'⟩ | ⟨kvs, hx, e'⟩
    · subst e'
      obtain ⟨its, r, pl, hz⟩ := I.list hx
      have hlen := r.length
      exact wpAny_truthy_list pl.isList (by simp only [List.size_toArray]; omega) ⟨H, I.tok _, by rw [isEmpty_of r]; exact q⟩
    · subst e'
      obtain ⟨its, r, pl, hz⟩ := I.tuple hx
      have hlen := r.length
      exact truthy_tuple pl (by simp only [List.size_toArray]; omega) ⟨H, I.tok _, by rw [isEmpty_of r]; exact q⟩
    · subst e'
      obtain ⟨hz, hS, vs, r, m⟩ : kvs.length ≤ sizeLine ∧ (p == sysModules) = false ∧ ∃ vs, KV kvs vs ∧ s.heap.DictOf (mixKind X.prog X.w) p vs := I.hok p _ hx
      have hlen : kvs.length = vs.length := Paired.length r
      exact wpAny_truthy_dict hS m (by omega) ⟨H, I.tok _, by rw [isEmpty_kv r]; exact q⟩
  | _ => exact (show False from e).elim
/-- any expression whose test is its value's truth (a name, a call, a subscript, a field ..: he by fun _ => rfl) -/
theorem pt_truth (ha : PE X a ta) (he : ∀ whole, isTrue a X.env whole = (do let v ← whole; standAt a.pos; holding [v] (truthy v))) :
    PT X a (fun σ H Q => ta σ H fun x H' => ∃ k, TruV X.K x H' k ∧ Q k H') := by
  intro pins s σ H Q I h
  exact isTrue_plain (thn (ha pins s σ H _ I h) fun v s1 ⟨x, H1, I1, r1, q1⟩ => tru_ok pins s1 σ H1 x v Q I1 r1 q1) (he _)

/-! ### strs and bytes -/
theorem pe_byt {x : List UInt8} {k : Nat} : PE X (.Constant (.bytes x) k pos) (fun _ H Q => Q (.byt x.toArray) H) := fun _ _ _ H _ I h => PySem.W.Constant_bytes ⟨.byt x.toArray, H, I.tok _, ⟨_, rfl⟩, h⟩
theorem op_add_str : OpR X (binaryOp .Add) (fun x y H Q => ∃ i j, x = .str i ∧ y = .str j ∧ i.length + j.length ≤ sizeLine ∧ Q (.str (i ++ j)) H) := by
  intro pins s σ H x y v u Q I rx ry h
  obtain ⟨i, j, rfl, rfl, hz, q⟩ := h
  obtain ⟨t, rfl⟩ := rx
  obtain ⟨t', rfl⟩ := ry
  exact add_str (fun t' tk => ⟨.str (i ++ j), H, I.tok _, ⟨_, rfl⟩, q⟩) hz
theorem iop_add_str : OpR X (inplaceOp .Add) (fun x y H Q => ∃ i j, x = .str i ∧ y = .str j ∧ i.length + j.length ≤ sizeLine ∧ Q (.str (i ++ j)) H) := by
  intro pins s σ H x y v u Q I rx ry h
  obtain ⟨i, j, rfl, rfl, hz, q⟩ := h
  obtain ⟨t, rfl⟩ := rx
  obtain ⟨t', rfl⟩ := ry
  exact iadd_str (fun t' tk => ⟨.str (i ++ j), H, I.tok _, ⟨_, rfl⟩, q⟩) hz
theorem op_add_byt : OpR X (binaryOp .Add) (fun x y H Q => ∃ i j, x = .byt i ∧ y = .byt j ∧ i.size + j.size ≤ 16777216 ∧ Q (.byt (i ++ j)) H) := by
  intro pins s σ H x y v u Q I rx ry h
  obtain ⟨i, j, rfl, rfl, hz, q⟩ := h
  obtain ⟨t, rfl⟩ := rx
  obtain ⟨t', rfl⟩ := ry
  exact PySem.W.KBy.add_bytes hz (fun t' tk => ⟨.byt (i ++ j), H, I.tok _, ⟨_, rfl⟩, q⟩)

def PlainIxT (b : Expr) : Prop := ∀ o i, subscripted b false o i = operate [o, i] (getItem o i)
/-- s[i], 0 ≤ i < len -/
theorem pe_item_str (ha : PE X a ta) (hb : PE X b tb) (hs : PlainIxT b) :
    PE X (.Subscript a b pos) (tOp (fun x y H Q => ∃ z i c, x = .str z ∧ y = .int i ∧ 0 ≤ i ∧ i < 2 ^ 63 ∧ i < z.length ∧ z.cps[i.toNat]? = some c ∧ Q (.str ⟨#[c]⟩) H) ta tb) := by
  intro pins s σ H Q I h
  refine Subscript_ (binT ha hb I h fun v u s2 x y H2 I2 rx ry q => ?_)
  obtain ⟨z, i, c, rfl, rfl, h0, h63, h1, hc, q⟩ := q
  obtain ⟨t, rfl⟩ := rx
  obtain ⟨t', rfl⟩ := ry
  have e : seqIndex? i z.length = some i.toNat := PySem.StrLaws.seqIndex_nonneg h0 h1
  exact tail_any (typeIs_str s2 z t) slot_str_getitem.lookup (getItem_str (c := c) (by
    have e1 : decide (i < -(2 ^ 63 : Int)) = false := decide_eq_false (by omega)
    have e2 : decide (i ≥ 2 ^ 63) = false := decide_eq_false (by omega)
    rw [e1, e2] <;> rfl) (by rw [e]; exact hc) ⟨.str ⟨#[c]⟩, H2, I2.tok _, ⟨_, rfl⟩, q⟩) (hs _ _)
/-- b[i], 0 ≤ i < len -/
theorem pe_item_byt (ha : PE X a ta) (hb : PE X b tb) (hs : PlainIxT b) :
    PE X (.Subscript a b pos) (tOp (fun x y H Q => ∃ (z : List UInt8) (i : Int), x = .byt z.toArray ∧ y = .int i ∧ z.length ≤ sizeLine ∧ 0 ≤ i ∧ i < z.length ∧ Q (.int ((z.getD i.toNat 0).toNat : Nat)) H) ta tb) := by
  intro pins s σ H Q I h
  refine Subscript_ (binT ha hb I h fun v u s2 x y H2 I2 rx ry q => ?_)
  obtain ⟨z, i, rfl, rfl, hz, h0, h1, q⟩ := q
  obtain ⟨t, rfl⟩ := rx
  obtain ⟨t', rfl⟩ := ry
  have hl : sizeLine = 16777216 := sizeLine_eq
  exact tail_any (PySem.W.typeIs_bytes s2 z.toArray t) PySem.W.FB.slot_bytes_getitem.lookup (PySem.W.getItem_bytes (by omega) h0 h1 ⟨.int ((z.getD i.toNat 0).toNat : Nat), H2, I2.tok _, ⟨_, rfl⟩, q⟩) (hs _ _)

/-! ### scalar builtins, by CallR -/
theorem vals1 {x : V} {us : List Value} (r : Vals [x] us) : ∃ u, us = [u] ∧ RelV x u := by
  cases r with
  | cons r1 r2 => cases r2; exact ⟨_, rfl, r1⟩
theorem vals2 {x y : V} {us : List Value} (r : Vals [x, y] us) : ∃ u w', us = [u, w'] ∧ RelV x u ∧ RelV y w' := by
  cases r with
  | cons r1 r2 =>
    cases r2 with
    | cons r3 r4 => cases r4; exact ⟨_, _, rfl, r1, r3⟩
theorem call_abs : CallR X (.builtin "abs") (fun xs H Q => ∃ i, xs = [.int i] ∧ Q (.int (if i < 0 then -i else i)) H) := by
  intro pins s σ H xs us Q I r h
  obtain ⟨i, rfl, q⟩ := h
  obtain ⟨u, rfl, t, rfl⟩ := vals1 r
  exact call_abs_int fun u tk => ⟨.int (if i < 0 then -i else i), H, I.tok _, ⟨_, rfl⟩, q⟩
theorem call_max2 (hc : X.calm = true) : CallR X (.builtin "max") (fun xs H Q => ∃ i j, xs = [.int i, .int j] ∧ Q (.int (if j > i then j else i)) H) := by
  intro pins s σ H xs us Q I r h
  obtain ⟨i, j, rfl, q⟩ := h
  obtain ⟨u, w', rfl, ⟨t, rfl⟩, ⟨t', rfl⟩⟩ := vals2 r
  refine max_two_ints (I.ok.hd hc) fun h' tk k => ⟨_, H, I.kept k, ?_, q⟩
  by_cases hj : j > i
  · rw [if_pos hj, if_pos hj]; exact ⟨_, rfl⟩
  · rw [if_neg hj, if_neg hj]; exact ⟨_, rfl⟩
theorem call_min2 (hc : X.calm = true) : CallR X (.builtin "min") (fun xs H Q => ∃ i j, xs = [.int i, .int j] ∧ Q (.int (if j < i then j else i)) H) := by
  intro pins s σ H xs us Q I r h
  obtain ⟨i, j, rfl, q⟩ := h
  obtain ⟨u, w', rfl, ⟨t, rfl⟩, ⟨t', rfl⟩⟩ := vals2 r
  refine min_two_ints (I.ok.hd hc) fun h' tk k => ⟨_, H, I.kept k, ?_, q⟩
  by_cases hj : j < i
  · rw [if_pos hj, if_pos hj]; exact ⟨_, rfl⟩
  · rw [if_neg hj, if_neg hj]; exact ⟨_, rfl⟩
theorem call_int1 : CallR X (.type "int") (fun xs H Q => (∃ i, xs = [.int i] ∧ Q (.int i) H) ∨ ∃ k, xs = [.bl k] ∧ Q (.int (if k then 1 else 0)) H) := by
  intro pins s σ H xs us Q I r h
  rcases h with ⟨i, rfl, q⟩ | ⟨k, rfl, q⟩
  · obtain ⟨u, rfl, t, rfl⟩ := vals1 r
    exact call_int_int ⟨.int i, H, I, ⟨_, rfl⟩, q⟩
  · obtain ⟨u, rfl, r1⟩ := vals1 r
    cases r1
    exact call_int_bool ⟨.int (if k then 1 else 0), H, I.tok _, ⟨_, rfl⟩, q⟩
theorem call_bool1 : CallR X (.type "bool") (fun xs H Q => (∃ i, xs = [.int i] ∧ Q (.bl (i != 0)) H) ∨ ∃ k, xs = [.bl k] ∧ Q (.bl k) H) := by
  intro pins s σ H xs us Q I r h
  rcases h with ⟨i, rfl, q⟩ | ⟨k, rfl, q⟩
  · obtain ⟨u, rfl, t, rfl⟩ := vals1 r
    exact call_bool_int ⟨.bl (i != 0), H, I, rfl, q⟩
  · obtain ⟨u, rfl, r1⟩ := vals1 r
    cases r1
    exact call_bool_bool ⟨.bl k, H, I, rfl, q⟩
theorem call_str_int : CallR X (.type "str") (fun xs H Q => ∃ i, xs = [.int i] ∧ i.natAbs.log2 < 1920 ∧ Q (.str (toString i)) H) := by
  intro pins s σ H xs us Q I r h
  obtain ⟨i, rfl, hz, q⟩ := h
  obtain ⟨u, rfl, t, rfl⟩ := vals1 r
  exact PySem.P.str_of_int hz ⟨.str _, H, I.tok _, ⟨_, rfl⟩, q⟩
theorem call_ord : CallR X (.builtin "ord") (fun xs H Q => ∃ x, xs = [.str x] ∧ x.length = 1 ∧ Q (.int (x.cps.getD 0 0 : Nat)) H) := by
  intro pins s σ H xs us Q I r h
  obtain ⟨x, rfl, hz, q⟩ := h
  obtain ⟨u, rfl, t, rfl⟩ := vals1 r
  exact ord_of_one hz ⟨.int _, H, I.tok _, ⟨_, rfl⟩, q⟩
theorem call_chr : CallR X (.builtin "chr") (fun xs H Q => ∃ i, xs = [.int i] ∧ 0 ≤ i ∧ i ≤ 1114111 ∧ Q (.str ⟨#[i.toNat]⟩) H) := by
  intro pins s σ H xs us Q I r h
  obtain ⟨i, rfl, h0, h1, q⟩ := h
  obtain ⟨u, rfl, t, rfl⟩ := vals1 r
  exact chr_of_range h0 h1 ⟨.str _, H, I.tok _, ⟨_, rfl⟩, q⟩
/-- len of a str, a bytes, a list, a tuple -/
def LenV (K : PySem.W.Frag) (x : V) (H : Hp) (n : Nat) : Prop :=
  match x with
  | .str y => y.length ≤ sizeLine ∧ n = y.length
  | .byt y => y.size ≤ sizeLine ∧ n = y.size
  | .ref p => (∃ xs, SqL K H p xs ∧ n = xs.length) ∨ ∃ xs, SqT K H p xs ∧ n = xs.length
  | _ => False
theorem call_len : CallR X (.builtin "len") (fun xs H Q => ∃ x n, xs = [x] ∧ LenV X.K x H n ∧ Q (.int n) H) := by
  intro pins s σ H xs us Q I r h
  obtain ⟨x, n, rfl, e, q⟩ := h
  obtain ⟨u, rfl, rx⟩ := vals1 r
  have hl := line63
  have hs : sizeLine = 16777216 := sizeLine_eq
  cases x with
  | str y =>
    obtain ⟨t, rfl⟩ := rx
    obtain ⟨hy, e'⟩ : y.length ≤ sizeLine ∧ n = y.length := e
    subst e'
    exact len_str (by omega) ⟨.int _, H, I.tok _, ⟨_, rfl⟩, q⟩
  | byt y =>
    obtain ⟨t, rfl⟩ := rx
    obtain ⟨hy, e'⟩ : y.size ≤ sizeLine ∧ n = y.size := e
    subst e'
    exact PySem.W.len_bytes (by omega) ⟨.int _, H, I.tok _, ⟨_, rfl⟩, q⟩
  | ref p =>
    cases rx
    have e' : (∃ xs, SqL X.K H p xs ∧ n = xs.length) ∨ ∃ xs, SqT X.K H p xs ∧ n = xs.length := e
    rcases e' with ⟨xs, hx, e'⟩ | ⟨xs, hx, e'⟩
    · subst e'
      obtain ⟨its, r', pl, hz⟩ := I.list hx
      have hlen := r'.length
      exact Calls.call_len_list pl.isList (by simp only [List.size_toArray]; omega) ⟨.int xs.length, H, I.tok _, ⟨_, by simp only [List.size_toArray]; rw [hlen]⟩, q⟩
    · subst e'
      obtain ⟨its, r', pl, hz⟩ := I.tuple hx
      have hlen := r'.length
      exact len_tuple pl (by simp only [List.size_toArray]; omega) ⟨.int xs.length, H, I.tok _, ⟨_, by simp only [List.size_toArray]; rw [hlen]⟩, q⟩
  | _ => exact (show False from e).elim
/-- divmod: a new tuple -/
theorem call_divmod : CallR X (.builtin "divmod") (fun xs H Q => ∃ i j, xs = [.int i, .int j] ∧ CDiv i j ∧ ∀ p, H p = none → Q (.ref p) (upd H p (.tup [.int (i / j), .int (i % j)]))) := by
  intro pins s σ H xs us Q I r h
  obtain ⟨i, j, rfl, ⟨h1, h2⟩, q⟩ := h
  obtain ⟨u, w', rfl, ⟨t, rfl⟩, ⟨t', rfl⟩⟩ := vals2 r
  refine divmod_int (by omega) ?_ (.inl (PyProof.noPylong_small (by omega)))
  rw [Int.fdiv_eq_ediv_of_nonneg i (by omega), Int.fmod_eq_emod_of_nonneg i (by omega)]
  have hn : H s.heap.objs.size = none := I.hok.fresh (Nat.le_refl _)
  refine ⟨.ref s.heap.objs.size, _, ?_, rfl, q _ hn⟩
  refine I.laid (fun b o e => Heap.get?_push_of_some _ e) (Nat.le_refl _) ⟨by simp only [List.length_cons, List.length_nil]; rw [sizeLine_eq]; decide, [.int (i / j) s.toks, .int (i % j) (s.toks + 1)], .cons ⟨_, rfl⟩ (.cons ⟨_, rfl⟩ .nil), ?_⟩
  exact ⟨_, Heap.get?_push_size s.heap rfl, rfl, 0, rfl⟩
end
end L2

namespace L2
open PySem PySem.Spec PyProof.Rows

/-! ### an instance, its attributes a map -/
structure ObjM (h : Heap) (x dx C : Addr) (mA : Str → Option Value) : Prop where
  obj : h.get? x = some (PySem.W.instObj C dx)
  ns : h.Ns1 dx mA
  ne : dx ≠ x

theorem lookIn_ns {h : Heap} {dx : Addr} {mA : Str → Option Value} (n : h.Ns1 dx mA) : ∃ od, h.get? dx = some od ∧ ∀ name, PySem.W.lookIn name od = some (mA name) := by
  obtain ⟨o, es, ep, ho, hd, hk, _, hm⟩ := n
  refine ⟨o, ho, fun name => ?_⟩
  have e := hm name
  unfold nsFind findBy at e
  rw [← Array.find?_toList] at e
  unfold PySem.W.lookIn
  rw [hd]
  dsimp only
  split
  · rename_i y q
    rw [q] at e
    exact congrArg some e
  · rename_i q
    rw [q] at e
    have a : es.toList.any (·.refKey) = false := by
      rw [List.any_eq_false]
      intro y hy
      obtain ⟨z, t, hkey⟩ := hk y (Array.mem_toList_iff.mp hy)
      simp [DictEntry.refKey, hkey]
    have a' : ¬ es.toList.any (·.refKey) = true := by rw [a]; exact Bool.false_ne_true
    rw [if_neg a']
    exact congrArg some e

theorem ObjM.look {h : Heap} {x dx C : Addr} {mA : Str → Option Value} (I : ObjM h x dx C mA) : ∃ od, PySem.W.InstAt h x (PySem.W.instObj C dx) C (some od) ∧ ∀ name, PySem.W.lookIn name od = some (mA name) :=
  let ⟨od, ho, hl⟩ := lookIn_ns I.ns
  ⟨od, ⟨I.obj, rfl, rfl, ho⟩, hl⟩

section
variable {prog : Program} {w : World} {A : Around} {E : Value → Shared → Prop} {s : Shared} {K : PySem.W.Frag} {x dx C f : Addr} {mA : Str → Option Value} {name : Str} {v : Value}

theorem get_map {expr : Bool} {Q : Value → Shared → Prop} (X : K.In s.heap) (I : ObjM s.heap x dx C mA) (hg : PySem.W.plainGet K C name = true) (hh : PySem.W.hasDictIn K C = true)
    (ha : PySem.W.findIn K (.ref C) name = some none) (hv : mA name = some v) (hv' : PySem.W.handedIn v = true) (h : Q v { s with toks := s.toks + 1 }) :
    wpAny (model prog w) A (getAttr (.ref x) name expr) Q E s := by
  obtain ⟨od, J, hl⟩ := I.look
  exact PySem.W.get_value X J (PySem.W.plainGet_of hg).1 (PySem.W.findObj_own hh ha rfl (by rw [hl, hv])) hv' h

theorem get_const {expr : Bool} {a : Value} {Q : Value → Shared → Prop} (X : K.In s.heap) (I : ObjM s.heap x dx C mA) (hg : PySem.W.plainGet K C name = true) (hh : PySem.W.hasDictIn K C = true)
    (ha : PySem.W.findIn K (.ref C) name = some (some a)) (hn : PySem.W.specialIn K a "__get__" = some none) (hc : PySem.W.copiedNames.contains name = false) (hv : mA name = none) (hv' : PySem.W.handedIn a = true)
    (h : Q a { s with toks := s.toks + 1 }) : wpAny (model prog w) A (getAttr (.ref x) name expr) Q E s := by
  obtain ⟨od, J, hl⟩ := I.look
  exact PySem.W.get_value X J (PySem.W.plainGet_of hg).1 (PySem.W.findObj_cls hh ha hn hv' hc (by rw [hl, hv])) hv' h

theorem get_meth {pl : Sem Bool} {Q : Value × List Value → Shared → Prop} (X : K.In s.heap) (I : ObjM s.heap x dx C mA) (hg : PySem.W.plainGet K C name = true)
    (hf : PySem.W.findIn K (.ref C) name = some (some (.ref f))) (ht : PySem.W.isFn K (.ref f) = true) (hv : mA name = none) (h : Q (.ref f, [.ref x]) s) :
    wpAny (model prog w) A (getMethod (.ref x) name pl) Q E s := by
  obtain ⟨od, J, hl⟩ := I.look
  exact PySem.W.method_fn X J (PySem.W.plainGet_of hg).1 (PySem.W.plainGet_of hg).2 hf (beq_iff_eq.mp ht) (by show (PySem.W.lookIn name od).map (·.isSome) = some false; rw [hl, hv]; rfl) h

theorem set_map {ns : List Str} {Q : Unit → Shared → Prop} (X : K.In s.heap) (I : ObjM s.heap x dx C mA)
    (hs : PySem.W.findIn K (.ref C) "__setattr__" = some (some (.builtin "object.__setattr__"))) (hp : PySem.W.plainOver K C = true) (ht : PySem.W.takerIn K C name = some none) (hh : PySem.W.hasDictIn K C = true)
    (hw : PySem.Within mA ns) (hsz : ns.length ≤ sizeLine)
    (h : ∀ h', ObjM h' x dx C (fun y => if y = name then some v else mA y) → Heap.SameBut dx s.heap h' → Q () { s with heap := h', toks := s.toks + 2 }) :
    wpAny (model prog w) A (setAttr (.ref x) name v) Q E s := by
  obtain ⟨od, J, hl⟩ := I.look
  refine PySem.W.set_plain X J hs (PySem.W.osa_open (s := { s with toks := s.toks + 1 }) (r := none) X J hp ht fun b => ?_)
  obtain ⟨cd, hc, hd'⟩ := PySem.W.any_some hh
  have hx : s.heap.get? x = some ⟨.ref C, some dx, .plain, #[]⟩ := I.obj
  refine wpAny_bind (wpAny_pure (wpAny_bind (wpAny_bind (wpAny_loadPart hx (wpAny_bind (PySem.W.Looks.here (s := { s with toks := s.toks + 1 }) (PySem.W.looks_clsIn X hc) ?_))))))
  rw [hd']
  refine wpAny_pure (a := some dx) (wpAny_bind (wpAny_pure (wpAny_bind ?_)))
  refine wpAny_nsSet1 (s := { s with toks := s.toks + 1 }) I.ns fun h' hn2 hs2 => ?_
  obtain ⟨oD, esD, epD, hoD, hdD, hcD⟩ := hn2.count (PySem.Within.cons name v hw)
  refine wpAny_bind (wpAny_lookBehind hoD (by rw [hdD]; exact pastItsLine_dict (Nat.le_trans hcD (by rw [List.length_cons]; omega))) ?_)
  exact wpAny_pure (h _ ⟨(hs2.2 _ (Ne.symm I.ne)).trans I.obj, hn2, I.ne⟩ hs2)

/-- C(..): the dict at the heap's end, the instance behind it; then its __init__ -/
theorem make_map {R : Result → Shared → Prop} {vs : List Value} {kw : List (Str × Value)} (X : K.In s.heap) (hm : PySem.W.makesIn K C = true)
    (hi : PySem.W.findIn K (.ref C) "__init__" = some (some (.ref f))) (hf : PySem.W.typeIn K (.ref f) = some (.type "function"))
    (h : codeAny (model prog w) (A.under (.builtin "type.__call__" ⟨.ref C :: vs, kw⟩)) (.call (.ref f) ⟨.ref (s.heap.objs.size + 1) :: vs, kw⟩) (PySem.W.InitBack (s.heap.objs.size + 1) R)
      { s with heap := (s.heap.push PySem.W.emptyDict).push (PySem.W.instObj C s.heap.objs.size) }) :
    codeAny (model prog w) A (.call (.ref C) ⟨vs, kw⟩) R s := by
  obtain ⟨hh, g, d, t, os⟩ := s
  exact PySem.W.make_core (PySem.W.makes_of X hm) (PySem.W.looks_findIn X hi) (fun self => PySem.W.bind_fn X self hf) (.inl rfl) h
/-- C() where there is no __init__ but object's -/
theorem make_map0 {R : Result → Shared → Prop} (X : K.In s.heap) (hm : PySem.W.makesIn K C = true)
    (hi : PySem.W.findIn K (.ref C) "__init__" = some (some (.builtin "object.__init__")))
    (hb : ∀ self, PySem.W.Looks (model prog w) s.heap (bindSpecial (.builtin "object.__init__") self) (.builtin "object.__init__", [self]))
    (h : codeAny (model prog w) (A.under (.builtin "type.__call__" ⟨[.ref C], []⟩)) (.call (.builtin "object.__init__") ⟨[.ref (s.heap.objs.size + 1)], []⟩) (PySem.W.InitBack (s.heap.objs.size + 1) R)
      { s with heap := (s.heap.push PySem.W.emptyDict).push (PySem.W.instObj C s.heap.objs.size) }) :
    codeAny (model prog w) A (.call (.ref C) ⟨[], []⟩) R s := by
  obtain ⟨hh, g, d, t, os⟩ := s
  exact PySem.W.make_core (PySem.W.makes_of X hm) (PySem.W.looks_findIn X hi) hb (.inr ⟨rfl, rfl⟩) h
end

/-! ### the attributes as a list of pairs -/
def putF (f : Str) (v : V) : List (Str × V) → List (Str × V)
  | [] => [(f, v)]
  | (g, x) :: r => if g = f then (g, v) :: r else (g, x) :: putF f v r
theorem lookup_putF (f g : Str) (v : V) : ∀ fs : List (Str × V), (putF f v fs).lookup g = if g = f then some v else fs.lookup g
  | [] => by
    show List.lookup g [(f, v)] = _
    by_cases h : g = f
    · have hb : (g == f) = true := beq_iff_eq.mpr h
      simp only [List.lookup, hb, if_pos h]
    · have hb : (g == f) = false := beq_eq_false_iff_ne.mpr h
      simp only [List.lookup, hb, if_neg h]
  | (k, x) :: r => by
    have ih := lookup_putF f g v r
    rw [show putF f v ((k, x) :: r) = (if k = f then (k, v) :: r else (k, x) :: putF f v r) from rfl]
    by_cases hk : k = f
    · rw [if_pos hk]
      by_cases h : g = k
      · have hb : (g == k) = true := beq_iff_eq.mpr h
        simp only [List.lookup, hb, if_pos (h.trans hk)]
      · have hb : (g == k) = false := beq_eq_false_iff_ne.mpr h
        simp only [List.lookup, hb, if_neg (fun e : g = f => h (e.trans hk.symm))]
    · rw [if_neg hk]
      by_cases h : g = k
      · have hb : (g == k) = true := beq_iff_eq.mpr h
        simp only [List.lookup, hb, if_neg (fun e : g = f => hk (h.symm.trans e))]
      · have hb : (g == k) = false := beq_eq_false_iff_ne.mpr h
        simp only [List.lookup, hb]
        exact ih
theorem keys_putF (f : Str) (v : V) : ∀ fs : List (Str × V), f ∈ (putF f v fs).map (·.1) ∧ ∀ g, g ∈ fs.map (·.1) → g ∈ (putF f v fs).map (·.1)
  | [] => ⟨by simp [putF], fun g h => by simp at h⟩
  | (k, x) :: r => by
    obtain ⟨i1, i2⟩ := keys_putF f v r
    rw [show putF f v ((k, x) :: r) = (if k = f then (k, v) :: r else (k, x) :: putF f v r) from rfl]
    by_cases hk : k = f
    · rw [if_pos hk]
      subst hk
      exact ⟨by simp, fun g h => by simpa using h⟩
    · rw [if_neg hk]
      refine ⟨?_, fun g h => ?_⟩
      · rw [List.map_cons]
        exact List.mem_cons_of_mem _ i1
      · rw [List.map_cons] at h ⊢
        rcases List.mem_cons.mp h with e | e
        · exact List.mem_cons.mpr (.inl e)
        · exact List.mem_cons_of_mem _ (i2 g e)
theorem length_putF (f : Str) (v : V) : ∀ fs : List (Str × V), (putF f v fs).length ≤ fs.length + 1
  | [] => by simp [putF]
  | (k, x) :: r => by
    have ih := length_putF f v r
    rw [show putF f v ((k, x) :: r) = (if k = f then (k, v) :: r else (k, x) :: putF f v r) from rfl]
    by_cases hk : k = f
    · rw [if_pos hk, List.length_cons, List.length_cons]; omega
    · rw [if_neg hk, List.length_cons, List.length_cons]; omega

theorem RelO.some_of {v : V} {o : Option Value} (r : RelO (some v) o) : ∃ u, o = some u ∧ RelV v u := by
  cases o with
  | none => exact (show False from r).elim
  | some u => exact ⟨u, rfl, r⟩
theorem RelO.none_of {o : Option Value} (r : RelO none o) : o = none := by
  cases o with
  | none => rfl
  | some u => exact (show False from r).elim
theorem handed_of {v : V} {u : Value} (r : RelV v u) : PySem.W.handedIn u = true := by
  cases v with
  | non => cases (show u = Value.none from r); rfl
  | bl b => cases (show u = Value.bool b from r); rfl
  | int i => obtain ⟨t, e⟩ := (show ∃ t, u = Value.int i t from r); cases e; rfl
  | str x => obtain ⟨t, e⟩ := (show ∃ t, u = Value.str x t from r); cases e; rfl
  | byt b => obtain ⟨t, e⟩ := (show ∃ t, u = Value.bytes b t from r); cases e; rfl
  | flt b => obtain ⟨t, e⟩ := (show ∃ t, u = Value.float b t from r); cases e; rfl
  | ref a => cases (show u = Value.ref a from r); rfl
  | ty n => cases (show u = Value.type n from r); rfl

section
variable {P : Program} {w : World} {H H' : Hp} {h h' : Heap} {a C dx : Addr} {fs fs' : List (Str × V)}
theorem ins_get (hok : HOk P w H h) (e : H a = some (.ins C dx fs)) : ∃ mA, ObjM h a dx C mA ∧ (∀ f, RelO (fs.lookup f) (mA f)) ∧ PySem.Within mA (fs.map (·.1)) ∧ fs.length ≤ 1000 ∧ H dx = some (.own a) := by
  obtain ⟨d, z, ne, ob, mA, n, r, q⟩ := (show ObjOk P w H h a (.ins C dx fs) from hok a _ e)
  exact ⟨mA, ⟨ob, n, ne⟩, r, q, z, d⟩
end

/-! ### what of the text a class must have -/
structure Cls (K : PySem.W.Frag) (C : Addr) : Prop where
  pg : PySem.W.plainGet K C Str.empty = true
  hd : PySem.W.hasDictIn K C = true
  po : PySem.W.plainOver K C = true
  sa : PySem.W.findIn K (.ref C) "__setattr__" = some (some (.builtin "object.__setattr__"))
theorem Cls.get {K : PySem.W.Frag} {C : Addr} (c : Cls K C) (f : Str) : PySem.W.plainGet K C f = true := c.pg
/-- no class of it has the name -/
def NoAttr (K : PySem.W.Frag) (C : Addr) (f : Str) : Prop := PySem.W.findIn K (.ref C) f = some none
theorem NoAttr.taker {K : PySem.W.Frag} {C : Addr} {f : Str} (n : NoAttr K C f) : PySem.W.takerIn K C f = some none := by
  unfold PySem.W.takerIn
  rw [show PySem.W.findIn K (.ref C) f = some none from n]
  rfl
/-- a constant of the class -/
structure Con (K : PySem.W.Frag) (C : Addr) (f : Str) (v : V) (u : Value) : Prop where
  at_ : PySem.W.findIn K (.ref C) f = some (some u)
  rel : RelV v u
  get : PySem.W.specialIn K u "__get__" = some none
  cp : PySem.W.copiedNames.contains f = false
/-- a method: a plain def of the class or of one above it -/
structure Meth (K : PySem.W.Frag) (C : Addr) (m : Str) (f : Addr) : Prop where
  at_ : PySem.W.findIn K (.ref C) m = some (some (.ref f))
  fn : PySem.W.isFn K (.ref f) = true
  kp : PySem.W.keepIn K (.ref f) = true

section
variable {X : Cx} {pins : List (Addr × Obj)} {σ : St} {H : Hp} {s : Shared} {a C dx : Addr} {fs : List (Str × V)} {f : Str} {v : V} {A : Around} {E : Value → Shared → Prop}

theorem getattr_ok {b : Bool} {Q : Value → Shared → Prop} (I : Inv X pins σ H s) (e : H a = some (.ins C dx fs)) (c : Cls X.K C) (n : NoAttr X.K C f) (l : fs.lookup f = some v)
    (h : ∀ u s', Inv X pins σ H s' → RelV v u → Q u s') : wpAny (model X.prog X.w) A (getAttr (.ref a) f b) Q E s := by
  obtain ⟨mA, O, r, _, _, _⟩ := ins_get I.hok e
  obtain ⟨u, hu, ru⟩ := RelO.some_of (v := v) (o := mA f) (by rw [← l]; exact r f)
  exact get_map I.kIn O (c.get f) c.hd n hu (handed_of ru) (h u _ (I.tok _) ru)

theorem getcon_ok {b : Bool} {u : Value} {Q : Value → Shared → Prop} (I : Inv X pins σ H s) (e : H a = some (.ins C dx fs)) (c : Cls X.K C) (k : Con X.K C f v u) (l : fs.lookup f = none)
    (h : ∀ s', Inv X pins σ H s' → Q u s') : wpAny (model X.prog X.w) A (getAttr (.ref a) f b) Q E s := by
  obtain ⟨mA, O, r, _, _, _⟩ := ins_get I.hok e
  have hn : mA f = none := RelO.none_of (by rw [← l]; exact r f)
  exact get_const I.kIn O (c.get f) c.hd k.at_ k.get k.cp hn (handed_of k.rel) (h _ (I.tok _))

theorem getmeth_ok {m : Str} {g : Addr} {pl : Sem Bool} {Q : Value × List Value → Shared → Prop} (I : Inv X pins σ H s) (e : H a = some (.ins C dx fs)) (c : Cls X.K C) (k : Meth X.K C m g) (l : fs.lookup m = none)
    (h : Q (.ref g, [.ref a]) s) : wpAny (model X.prog X.w) A (getMethod (.ref a) m pl) Q E s := by
  obtain ⟨mA, O, r, _, _, _⟩ := ins_get I.hok e
  have hn : mA m = none := RelO.none_of (by rw [← l]; exact r m)
  exact get_meth I.kIn O (c.get m) k.at_ k.fn hn h

theorem setattr_ok {y : V} {u : Value} {Q : Unit → Shared → Prop} (I : Inv X pins σ H s) (e : H a = some (.ins C dx fs)) (c : Cls X.K C) (n : NoAttr X.K C f) (hl : fs.length < 1000) (ry : RelV y u)
    (h : ∀ s', Inv X pins σ (upd H a (.ins C dx (putF f y fs))) s' → Q () s') : wpAny (model X.prog X.w) A (setAttr (.ref a) f u) Q E s := by
  obtain ⟨mA, O, r, wi, _, ho⟩ := ins_get I.hok e
  have hz : (fs.map (·.1)).length ≤ sizeLine := by rw [List.length_map, sizeLine_eq]; omega
  refine set_map I.kIn O c.sa c.po n.taker c.hd wi hz fun h' O' sb => h _ ?_
  have hd : ∃ o, h'.get? dx = some o := let ⟨o, _, _, e', _⟩ := O'.ns; ⟨o, e'⟩
  refine I.write (x := a) (e := dx) (by rw [e]; exact True.intro) (.inr ho) (fun b q hb z => (sb.2 b hb).trans z) hd ?_
  refine ⟨by rw [upd_ne O.ne]; exact ho, ?_, O.ne, O'.obj, _, O'.ns, fun g => ?_, fun g hg => ?_⟩
  · have := length_putF f y fs; omega
  · show RelO ((putF f y fs).lookup g) (if g = f then some u else mA g)
    rw [lookup_putF]
    by_cases q : g = f
    · rw [if_pos q, if_pos q]; exact ry
    · rw [if_neg q, if_neg q]; exact r g
  · by_cases q : g = f
    · rw [q]; exact (keys_putF f y fs).1
    · refine (keys_putF f y fs).2 g (wi g fun z => hg ?_)
      show (if g = f then some u else mA g) = none
      rw [if_neg q]; exact z

/-- a new instance, tracked, without attributes -/
theorem Inv.made (I : Inv X pins σ H s) : Inv X pins σ (upd (upd H s.heap.objs.size (.own (s.heap.objs.size + 1))) (s.heap.objs.size + 1) (.ins C s.heap.objs.size []))
    { s with heap := (s.heap.push PySem.W.emptyDict).push (PySem.W.instObj C s.heap.objs.size) } := by
  have e1 : (s.heap.push PySem.W.emptyDict).get? s.heap.objs.size = some PySem.W.emptyDict := Heap.get?_push_size s.heap rfl
  have e2 : ((s.heap.push PySem.W.emptyDict).push (PySem.W.instObj C s.heap.objs.size)).get? (s.heap.objs.size + 1) = some (PySem.W.instObj C s.heap.objs.size) := by
    have := Heap.get?_push_size (s.heap.push PySem.W.emptyDict) (o := PySem.W.instObj C s.heap.objs.size) rfl
    rwa [Heap.size_push] at this
  have e3 : (s.heap.push PySem.W.emptyDict).Ns s.heap.objs.size (fun _ => none) := ⟨PySem.W.emptyDict, #[], _, e1, rfl, (fun e he => absurd he (by simp)), fun _ => rfl⟩
  have I1 := I.laid (a := s.heap.objs.size) (o := .own (s.heap.objs.size + 1)) (h' := s.heap.push PySem.W.emptyDict) (t' := s.toks) (fun b u q => Heap.get?_push_of_some _ q) (Nat.le_refl _) ⟨_, e1⟩
  refine I1.laid (a := s.heap.objs.size + 1) (o := .ins C s.heap.objs.size []) (t' := s.toks) (fun b u q => Heap.get?_push_of_some _ q) (Nat.le_of_eq (Heap.size_push _ _)) ?_
  have ne : s.heap.objs.size ≠ s.heap.objs.size + 1 := Nat.ne_of_lt (Nat.lt_succ_self _)
  refine ⟨by rw [upd_ne ne, upd_same], Nat.zero_le _, ne, e2, fun _ => none, (Heap.Ns1.of_empty e3).at fun o q => Heap.get?_push_of_some _ q, fun _ => True.intro, fun y hy => absurd rfl hy⟩

/-- e.f where nothing but the object is asked: through attributeBase (super) and the last hold -/
theorem attr_of {prog : Program} {w : World} {env : Env} {e : Expr} {f : Str} {pos : Pos} {s : Shared} {Q : Value → Shared → Prop} (hb : attributeBase e f env (eval e env) = eval e env)
    (h : wpAny (model prog w) A (eval e env) (fun o s₁ => wpAny (model prog w) A (getAttr o f true) Q E s₁) E s) : wpAny (model prog w) A (eval (.Attribute e f pos) env) Q E s :=
  Attribute_any_ h (by rw [arm_eval_Attribute, hb])
end

/-! ### readings and rules -/
/-- e.f, an attribute of the instance -/
def tFld (K : PySem.W.Frag) (ta : TE) (f : Str) : TE := fun σ H Q => ta σ H fun x H1 => ∃ a C dx fs v, x = .ref a ∧ H1 a = some (.ins C dx fs) ∧ Cls K C ∧ NoAttr K C f ∧ fs.lookup f = some v ∧ Q v H1
/-- e.f, a constant of the class -/
def tCon (K : PySem.W.Frag) (ta : TE) (f : Str) : TE := fun σ H Q => ta σ H fun x H1 => ∃ a C dx fs v u, x = .ref a ∧ H1 a = some (.ins C dx fs) ∧ Cls K C ∧ Con K C f v u ∧ fs.lookup f = none ∧ Q v H1
/-- e.f = value -/
def sFld (K : PySem.W.Frag) (ta tv : TE) (f : Str) : TS := fun D σ H => tv σ H fun y H1 => ta σ H1 fun x H2 => ∃ a C dx fs, x = .ref a ∧ H2 a = some (.ins C dx fs) ∧ Cls K C ∧ NoAttr K C f ∧ fs.length < 1000 ∧
  D.nx σ (upd H2 a (.ins C dx (putF f y fs)))
/-- an augmented operator on two values -/
def InOp (X : Cx) (op : Operator) (rd : V → V → Hp → VK → Prop) : Prop :=
  ∀ (pins : List (Addr × Obj)) (s : Shared) (σ : St) (H : Hp) (x y : V) (u v : Value) (Q : VK), Inv X pins σ H s → RelV x u → RelV y v → rd x y H Q → wpAny (model X.prog X.w) X.A (inplaceOp op u v) (EP X pins σ Q) X.xe s
/-- e.f op= value -/
def sFldAug (K : PySem.W.Frag) (ta tv : TE) (rd : V → V → Hp → VK → Prop) (f : Str) : TS := fun D σ H => ta σ H fun x H1 => ∃ a C dx fs v, x = .ref a ∧ H1 a = some (.ins C dx fs) ∧ Cls K C ∧ NoAttr K C f ∧ fs.lookup f = some v ∧
  tv σ H1 fun y H2 => rd v y H2 fun z H3 => ∃ dx' fs', H3 a = some (.ins C dx' fs') ∧ fs'.length < 1000 ∧ D.nx σ (upd H3 a (.ins C dx' (putF f z fs')))

section
variable {X : Cx} {o e value : Expr} {f : Str} {pos pos' tpos : Pos} {ta tv : TE}
theorem pe_fld (he : PE X e ta) (hb : attributeBase e f X.env (eval e X.env) = eval e X.env) : PE X (.Attribute e f pos) (tFld X.K ta f) := by
  intro pins s σ H Q I h
  refine attr_of hb (thn (he pins s σ H _ I h) fun u s1 ⟨x, H1, I1, rx, a, C, dx, fs, v, ex, ea, c, n, l, q⟩ => ?_)
  subst ex
  obtain rfl : u = Value.ref a := rx
  exact getattr_ok I1 ea c n l fun u' s2 I2 ru => ⟨v, H1, I2, ru, q⟩
theorem pe_con (he : PE X e ta) (hb : attributeBase e f X.env (eval e X.env) = eval e X.env) : PE X (.Attribute e f pos) (tCon X.K ta f) := by
  intro pins s σ H Q I h
  refine attr_of hb (thn (he pins s σ H _ I h) fun u s1 ⟨x, H1, I1, rx, a, C, dx, fs, v, u0, ex, ea, c, k, l, q⟩ => ?_)
  subst ex
  obtain rfl : u = Value.ref a := rx
  exact getcon_ok I1 ea c k l fun s2 I2 => ⟨v, H1, I2, k.rel, q⟩
theorem ps_fld (ha : PE X o ta) (hv : PE X value tv) (hs : swapsWith value (some (.Attribute o f pos')) pos.line X.env = pure false) : PS X (.Assign [.Attribute o f pos'] value pos) (sFld X.K ta tv f) := by
  intro pins s σ H D I h
  refine plainObj_wpAny_Assign_Attribute (thn (hv pins s σ H _ I h) fun u s1 ⟨y, H1, I1, ry, q⟩ => thn (ha pins s1 σ H1 _ I1 q) fun ov s2 ⟨x, H2, I2, rx, a, C, dx, fs, ex, ea, c, n, l, q2⟩ => ?_) hs
  subst ex
  obtain rfl : ov = Value.ref a := rx
  exact setattr_ok I2 ea c n l ry fun s3 I3 => ⟨σ, _, I3, q2⟩
theorem ps_fldaug {op : Operator} {rd : V → V → Hp → VK → Prop} (ha : PE X o ta) (hv : PE X value tv) (hop : InOp X op rd) : PS X (.AugAssign (.Attribute o f tpos) op value pos) (sFldAug X.K ta tv rd f) := by
  intro pins s σ H D I h
  refine wpAny_AugAssign_AttributeAny (thn (ha pins s σ H _ I h) fun ov s1 ⟨x, H1, I1, rx, a, C, dx, fs, v, ex, ea, c, n, l, q⟩ => ?_)
  subst ex
  obtain rfl : ov = Value.ref a := rx
  refine getattr_ok I1 ea c n l fun u s2 I2 ru => thn (hv pins s2 σ H1 _ I2 q) fun w3 s3 ⟨y, H2, I3, ry, q3⟩ => thn (hop pins s3 σ H2 v y u w3 _ I3 ru ry q3) fun w4 s4 ⟨z, H3, I4, rz, dx', fs', ea', l', q4⟩ => ?_
  exact setattr_ok I4 ea' c n l' rz fun s5 I5 => ⟨σ, _, I5, q4⟩
def rAdd : V → V → Hp → VK → Prop := fun x y H Q => ∃ i j, x = .int i ∧ y = .int j ∧ Q (.int (i + j)) H
def rSub : V → V → Hp → VK → Prop := fun x y H Q => ∃ i j, x = .int i ∧ y = .int j ∧ Q (.int (i - j)) H
theorem in_add : InOp X .Add rAdd := by
  rintro pins s σ H x y u v Q I rx ry ⟨i, j, rfl, rfl, q⟩
  obtain ⟨t, rfl⟩ := (show ∃ t, u = Value.int i t from rx)
  obtain ⟨t', rfl⟩ := (show ∃ t', v = Value.int j t' from ry)
  exact PyProof.Rows.iadd_int ⟨.int (i + j), H, I.tok _, ⟨_, rfl⟩, q⟩
theorem in_sub : InOp X .Sub rSub := by
  rintro pins s σ H x y u v Q I rx ry ⟨i, j, rfl, rfl, q⟩
  obtain ⟨t, rfl⟩ := (show ∃ t, u = Value.int i t from rx)
  obtain ⟨t', rfl⟩ := (show ∃ t', v = Value.int j t' from ry)
  exact PyProof.Rows.isub_int ⟨.int (i - j), H, I.tok _, ⟨_, rfl⟩, q⟩

/-- what is between an instance and its method: the tree of a method call -/
theorem methcall_of {pl : Sem Bool} {m : Str} {apos : Pos} {args : List Expr} {pins : List (Addr × Obj)} {s : Shared} {σ : St} {H : Hp} {Q : Value → Shared → Prop} {te : TE} (he : PE X e te) (I : Inv X pins σ H s)
    (h : te σ H fun x H1 => ∃ a C dx fs g, x = .ref a ∧ H1 a = some (.ins C dx fs) ∧ Cls X.K C ∧ Meth X.K C m g ∧ fs.lookup m = none ∧
      ∀ s1, Inv X pins σ H1 s1 → wpAny (model X.prog X.w) X.A (callWith pos (.ref g) [.ref a] (backTo pos (starEach args X.env)) (backToKw pos (keywordEach [] X.env))) Q X.xe s1)
    (ht : eval (.Call (.Attribute e m apos) args [] pos) X.env = (do
      let ov ← eval e X.env
      standAt apos.atName
      let (f, first) ← holding [ov] (getMethod ov m pl)
      callWith pos f first (backTo pos (starEach args X.env)) (backToKw pos (keywordEach [] X.env)))) :
    wpAny (model X.prog X.w) X.A (eval (.Call (.Attribute e m apos) args [] pos) X.env) Q X.xe s := by
  refine PySem.W.methodCall_KW (pl := pl) (thn (he pins s σ H _ I h) fun u s1 ⟨x, H1, I1, rx, a, C, dx, fs, g, ex, ea, c, k, l, q⟩ => ?_) ht
  subst ex
  obtain rfl : u = Value.ref a := rx
  exact getmeth_ok I1 ea c k l (q s1 I1)
end

/-! ### isinstance -/
section
variable {X : Cx} {pins : List (Addr × Obj)} {σ : St} {H : Hp} {s : Shared} {A : Around} {E : Value → Shared → Prop} {Q : Value → Shared → Prop} {c : Value} {b : Bool}
/-- the type of a value, as the fragment's deciders take it; for an instance its class -/
inductive TyOf (K : PySem.W.Frag) (H : Hp) : V → Value → Prop where
  | non : TyOf K H .non (.type "NoneType")
  | bl (x : Bool) : TyOf K H (.bl x) (.type "bool")
  | int (i : Int) : TyOf K H (.int i) (.type "int")
  | str (x : Str) : TyOf K H (.str x) (.type "str")
  | flt (x : UInt64) : TyOf K H (.flt x) (.type "float")
  | lst {a : Addr} {xs : List V} (e : H a = some (.lst xs)) : TyOf K H (.ref a) (.type "list")
  | frz {a : Addr} {o : Obj} {xs : List V} (e : H a = some (.frz o (.lst xs))) : TyOf K H (.ref a) (.type "list")
  | tup {a : Addr} {xs : List V} (e : H a = some (.tup xs)) : TyOf K H (.ref a) (.type "tuple")
  | dK {a : Addr} {kvs : List (Key × V)} (e : H a = some (.dK kvs)) : TyOf K H (.ref a) (.type "dict")
  | dT {a : Addr} {kvs : List (List Key × V)} (e : H a = some (.dT kvs)) : TyOf K H (.ref a) (.type "dict")
  | ins {a C dx : Addr} {fs : List (Str × V)} (e : H a = some (.ins C dx fs)) (cl : Cls K C) (ha : PySem.W.findIn K (.ref C) "__class__" = some (some (.builtin "object.__class__")))
      (hn : PySem.W.specialIn K (.builtin "object.__class__") "__get__" = some (some (.builtin "getset_descriptor.__get__"))) (htk : PySem.W.takesIn K (.builtin "object.__class__") = some true)
      (hm : PySem.W.mroIn K C (.type "object") = some true) : TyOf K H (.ref a) (.ref C)
/-- isinstance(x, c) for one class c, a built-in or an own one: kitOne's answer -/
theorem isinst_ok {x : V} {u t : Value} (I : Inv X pins σ H s) (rx : RelV x u) (ty : TyOf X.K H x t) (e : PySem.W.kitOne X.K t c = some b) (h : ∀ tk, Q (.bool b) { s with toks := tk }) :
    wpAny (model X.prog X.w) A (call (.builtin "isinstance") [u, c]) Q E s := by
  cases ty with
  | non => cases (show u = Value.none from rx); exact PySem.W.kia_one PySem.W.kitx_none I.kIn True.intro e (fun z => nomatch z) h
  | bl y => cases (show u = Value.bool y from rx); exact PySem.W.kia_one PySem.W.kitx_bool I.kIn True.intro e (fun z => nomatch z) h
  | int i => obtain ⟨t, q⟩ := (show ∃ t, u = Value.int i t from rx); cases q; exact PySem.W.kia_one PySem.W.kitx_int I.kIn True.intro e (fun z => nomatch z) h
  | str y => obtain ⟨t, q⟩ := (show ∃ t, u = Value.str y t from rx); cases q; exact PySem.W.kia_one PySem.W.kitx_str I.kIn True.intro e (fun z => nomatch z) h
  | flt y => obtain ⟨t, q⟩ := (show ∃ t, u = Value.float y t from rx); cases q; exact PySem.W.kia_one PySem.W.kitx_float I.kIn True.intro e (fun z => nomatch z) h
  | @lst a xs ea =>
    cases (show u = Value.ref a from rx)
    obtain ⟨_, _, n, _, h1⟩ := (show ObjOk X.prog X.w H s.heap a (.lst xs) from I.hok a _ ea)
    exact PySem.W.kia_one PySem.W.kitx_list I.kIn ⟨_, h1, rfl⟩ e (fun z => nomatch z) h
  | @frz a ob xs ea =>
    cases (show u = Value.ref a from rx)
    obtain ⟨_, _, _, n, _, h1⟩ := (show ObjOk X.prog X.w H s.heap a (.frz ob (.lst xs)) from I.hok a _ ea)
    exact PySem.W.kia_one PySem.W.kitx_list I.kIn ⟨_, h1, rfl⟩ e (fun z => nomatch z) h
  | @tup a xs ea =>
    cases (show u = Value.ref a from rx)
    obtain ⟨_, _, _, p⟩ := (show ObjOk X.prog X.w H s.heap a (.tup xs) from I.hok a _ ea)
    obtain ⟨o, h1, h2, _⟩ := p
    exact PySem.W.kia_one PySem.W.kitx_tuple I.kIn ⟨o, h1, h2⟩ e (fun z => nomatch z) h
  | @dK a kvs ea =>
    cases (show u = Value.ref a from rx)
    obtain ⟨_, _, vs, _, p⟩ := (show ObjOk X.prog X.w H s.heap a (.dK kvs) from I.hok a _ ea)
    obtain ⟨o, es, ep, h1, h2, _⟩ := p
    exact PySem.W.kia_one PySem.W.kitx_dict I.kIn ⟨o, h1, h2.1⟩ e (fun z => nomatch z) h
  | @dT a kvs ea =>
    cases (show u = Value.ref a from rx)
    obtain ⟨_, _, xs, _, o, es, ep, h1, h2, _⟩ := (show ObjOk X.prog X.w H s.heap a (.dT kvs) from I.hok a _ ea)
    exact PySem.W.kia_one PySem.W.kitx_dict I.kIn ⟨o, h1, h2.1⟩ e (fun z => nomatch z) h
  | @ins a C dx fs ea cl ha hn htk hm =>
    cases (show u = Value.ref a from rx)
    obtain ⟨mA, O, _⟩ := ins_get I.hok ea
    obtain ⟨od, J, _⟩ := O.look
    exact PySem.W.kia_one (PySem.W.kitx_own (cl.get _) cl.hd ha hn htk hm) I.kIn J e (fun z => nomatch z) h
end
end L2

namespace L2
open PySem PySem.Spec PyProof.Rows

/-! ### room -/
structure Room (k : Nat) (A : Around) : Prop where
  hd : A.handled = none
  dp : A.depth + 3 * k + 5 < recursionLimit
  un : A.units + 16 * k + 200 < cLine
theorem Room.mono {j k : Nat} {A : Around} (r : Room k A) (h : j ≤ k) : Room j A := ⟨r.hd, by have := r.dp; omega, by have := r.un; omega⟩
theorem Room.deeper {k : Nat} {A : Around} (r : Room (k + 1) A) (env : Env) : Room k (A.deeper env) :=
  ⟨r.hd, by have := r.dp; show A.depth + 1 + 3 * k + 5 < _; omega, by have := r.un; show A.units + 3 + 16 * k + 200 < _; omega⟩
theorem Room.in1 {k : Nat} {A : Around} (r : Room (k + 1) A) : Room k A.in1 :=
  ⟨r.hd, by have := r.dp; show A.depth + 3 * k + 5 < _; omega, by have := r.un; show A.units + 1 + 16 * k + 200 < _; omega⟩
theorem make_depth {A : Around} {C : Addr} {us : List Value} {kw : List (Str × Value)} : (A.under (.builtin "type.__call__" ⟨.ref C :: us, kw⟩)).depth = A.depth + 1 := by
  first | rfl | simp [Around.under, Code.weight, Code.isCreation, Code.isGuard, Code.isCaller, Code.frames, Code.isFrame, guardIds]
theorem make_units {A : Around} {C : Addr} {us : List Value} {kw : List (Str × Value)} : (A.under (.builtin "type.__call__" ⟨.ref C :: us, kw⟩)).units = A.units + 1 := by
  first | rfl | simp [Around.under, Code.cUnits, Code.frames, Code.isFrame]
theorem Room.make {k : Nat} {A : Around} (r : Room (k + 1) A) (C : Addr) (us : List Value) (kw : List (Str × Value)) : Room k (A.under (.builtin "type.__call__" ⟨.ref C :: us, kw⟩)) :=
  ⟨r.hd, by have := r.dp; rw [make_depth]; omega, by have := r.un; rw [make_units]; omega⟩
theorem Room.depth {k : Nat} {A : Around} (r : Room k A) : A.depth < recursionLimit := by have := r.dp; omega
theorem Room.units {k : Nat} {A : Around} (r : Room k A) : A.units + 64 < cLine := by have := r.un; omega
theorem Room.units0 {k : Nat} {A : Around} (r : Room k A) : A.units < cLine := by have := r.un; omega

/-! ### argument lists and displays -/
def tNil : TA := fun _ H Q => Q [] H
def tCons (ta : TE) (tr : TA) : TA := fun σ H Q => ta σ H fun x H1 => tr σ H1 fun xs H2 => Q (x :: xs) H2
section
variable {X : Cx} {e : Expr} {es : List Expr} {te : TE} {t : TA} {pos : Pos}
theorem pa_nil : PA X [] tNil := fun _ _ _ _ H Q I h => Calls.spliced_nil ⟨[], H, I, .nil, h⟩
theorem pa_cons (ha : PE X e te) (hr : PA X es t) (hs : starEach (e :: es) X.env = (false, eval e X.env) :: starEach es X.env := by rfl) : PA X (e :: es) (tCons te t) := by
  intro pos pins s σ H Q I h
  rw [hs]
  show wpAny _ _ (spliced ((false, eval e X.env) :: backTo pos (starEach es X.env))) _ _ s
  refine Calls.spliced_cons (thn (ha pins s σ H _ I h) fun u s1 ⟨x, H1, I1, r1, q1⟩ => ?_)
  exact thn (hr pos pins s1 σ H1 _ I1 q1) fun us s2 ⟨xs, H2, I2, r2, q2⟩ => ⟨x :: xs, H2, I2, .cons r1 r2, q2⟩

/-- a tuple, a list of written items -/
def tTup (t : TA) : TE := fun σ H Q => t σ H fun xs H1 => xs.length ≤ sizeLine ∧ ∀ p, H1 p = none → Q (.ref p) (upd H1 p (.tup xs))
def tLst (t : TA) : TE := fun σ H Q => t σ H fun xs H1 => xs.length ≤ sizeLine ∧ ∀ p, H1 p = none → Q (.ref p) (upd H1 p (.lst xs))
theorem pe_tup {x1} (h : PA X es t) : PE X (.Tuple es x1 pos) (tTup t) := by
  intro pins s σ H Q I hq
  refine wpAny_Tuple_spliced (thn (h pos pins s σ H _ I hq) fun us s1 ⟨xs, H1, I1, r, z, q⟩ => ⟨by rw [← r.length]; exact z, ?_⟩)
  have hf : H1 s1.heap.objs.size = none := I1.hok.fresh (Nat.le_refl _)
  refine ⟨.ref s1.heap.objs.size, upd H1 s1.heap.objs.size (.tup xs), I1.laid (t' := s1.toks) (fun b u e => Heap.get?_push_of_some _ e) (Nat.le_refl _) ?_, rfl, q _ hf⟩
  exact ⟨z, us, r, ⟨_, Heap.get?_push_size _ rfl, rfl, _, rfl⟩⟩
theorem pe_lst (h : PA X es t) : PE X (.List es pos) (tLst t) := by
  intro pins s σ H Q I hq
  refine wpAny_List_spliced (thn (h pos pins s σ H _ I hq) fun us s1 ⟨xs, H1, I1, r, z, q⟩ => ⟨by rw [← r.length]; exact z, ?_⟩)
  have hf : H1 s1.heap.objs.size = none := I1.hok.fresh (Nat.le_refl _)
  refine ⟨.ref s1.heap.objs.size, upd H1 s1.heap.objs.size (.lst xs), I1.laid (t' := s1.toks) (fun b u e => Heap.get?_push_of_some _ e) (Nat.le_refl _) ?_, rfl, q _ hf⟩
  exact ⟨z, us, 0, r, Heap.get?_push_size _ rfl⟩
end

/-! ### what a def promises -/
/-- a def's promise: the bound arguments in the parameters' order, the heap, the wanted end, the wanted exception -/
abbrev Sp := List V → Hp → VK → XK → Prop
/-- how an exception lies behind a call (file 08 gives it): the callers' frames, abstract heap and state ahead of the call, the wish, the exception, the state -/
abbrev CXT := List Env → Hp → Shared → XK → Value → Shared → Prop

/-- the state at a call -/
structure Env0 (P : Program) (w : World) (K : PySem.W.Frag) (mg : Str → Option Value) (base : Heap) (A : Around) (outer : List Env) (s : Shared) (H : Hp) : Prop where
  frames : A.frames = some outer
  mod : Mod K mg base
  bs : ∀ b o, base.get? b = some o → s.heap.get? b = some o ∧ H b = none
  bsz : base.objs.size ≤ s.heap.objs.size
  funs : s.heap.FunFrames base outer
  frf : ∀ b ∈ frs outer, H b = none
  hok : HOk P w H s.heap
  bare : AllBare s.gens
/-- a call's end -/
def CE (outer : List Env) (P : Program) (w : World) (H : Hp) (s : Shared) (Q : VK) (u : Value) (s' : Shared) : Prop :=
  ∃ v H', s'.os = s.os ∧ AllBare s'.gens ∧ Un (frs outer) [] H H' s.heap s'.heap ∧ HOk P w H' s'.heap ∧ RelV v u ∧ Q v H'
def CR (CX : CXT) (outer : List Env) (P : Program) (w : World) (H : Hp) (s : Shared) (Q : VK) (E : XK) (r : Result) (s' : Shared) : Prop :=
  match r with
  | .ok (.ret u) => CE outer P w H s Q u s'
  | .ok _ => False
  | .error e => CX outer H s E e s'
structure FnOk (P : Program) (w : World) (K : PySem.W.Frag) (mg : Str → Option Value) (base : Heap) (CX : CXT) (k : Nat) (f : Addr) (fd : FuncData) (ps : List Str) (sp : Sp) : Prop where
  len : ∀ vs H Q E, sp vs H Q E → vs.length = ps.length
  run : ∀ (A : Around) (outer : List Env) (s : Shared) (H : Hp) (args : Args) (us : List Value) (vs : List V) (Q : VK) (E : XK), Room k A → Env0 P w K mg base A outer s H → BindsTo s fd args (ps.zip us) → Vals vs us → sp vs H Q E →
    codeAny (model P w) A (.call (.ref f) args) (CR CX outer P w H s Q E) s
theorem FnOk.mono {P : Program} {w : World} {K : PySem.W.Frag} {mg : Str → Option Value} {base : Heap} {CX : CXT} {j k : Nat} {f : Addr} {fd : FuncData} {ps : List Str} {sp : Sp} (F : FnOk P w K mg base CX j f fd ps sp) (h : j ≤ k) :
    FnOk P w K mg base CX k f fd ps sp := ⟨F.len, fun A outer s H args us vs Q E hr => F.run A outer s H args us vs Q E (hr.mono h)⟩
/-- a weaker promise -/
theorem FnOk.imp {P : Program} {w : World} {K : PySem.W.Frag} {mg : Str → Option Value} {base : Heap} {CX : CXT} {k : Nat} {f : Addr} {fd : FuncData} {ps : List Str} {sp sp' : Sp} (F : FnOk P w K mg base CX k f fd ps sp)
    (h : ∀ vs H Q E, sp' vs H Q E → sp vs H Q E) : FnOk P w K mg base CX k f fd ps sp' :=
  ⟨fun vs H Q E q => F.len vs H Q E (h _ _ _ _ q), fun A outer s H args us vs Q E hr he hb hv hs => F.run A outer s H args us vs Q E hr he hb hv (h _ _ _ _ hs)⟩

theorem Env0.make {P : Program} {w : World} {K : PySem.W.Frag} {mg : Str → Option Value} {base : Heap} {A : Around} {outer : List Env} {s : Shared} {H : Hp} (e : Env0 P w K mg base A outer s H) (C : Addr) (us : List Value) (kw : List (Str × Value)) :
    Env0 P w K mg base (A.under (.builtin "type.__call__" ⟨.ref C :: us, kw⟩)) outer s H := ⟨by first | exact e.frames | (simpa [Around.under, Code.envs, Code.isFrame, pushEnvs] using e.frames), e.mod, e.bs, e.bsz, e.funs, e.frf, e.hok, e.bare⟩
theorem Env0.in1 {P : Program} {w : World} {K : PySem.W.Frag} {mg : Str → Option Value} {base : Heap} {A : Around} {outer : List Env} {s : Shared} {H : Hp} (e : Env0 P w K mg base A outer s H) :
    Env0 P w K mg base A.in1 outer s H := ⟨e.frames, e.mod, e.bs, e.bsz, e.funs, e.frf, e.hok, e.bare⟩

section
variable {X : Cx} {pins : List (Addr × Obj)} {σ : St} {H : Hp} {s s' : Shared}
/-- from a body: what a callee wants -/
theorem Inv.env0 (I : Inv X pins σ H s) : Env0 X.prog X.w X.K X.mg X.base X.A X.stack s H :=
  ⟨I.ok.frames, I.ok.mod, I.bs, Nat.le_trans I.ok.bsz I.sz, I.stack, I.stkFree, I.hok, I.bare⟩
/-- behind a call -/
theorem Inv.after {Q : VK} {u : Value} (I : Inv X pins σ H s) (h : CE X.stack X.prog X.w H s Q u s') : EP X pins σ Q u s' := by
  obtain ⟨v, H', os, bare, un, hok, r, q⟩ := h
  obtain ⟨hh, g, d, t, os'⟩ := s'
  obtain rfl : os' = s.os := os
  exact ⟨v, H', I.call (h' := hh) (g' := g) (d' := d) (t' := t) (ch := []) un hok bare (fun b z => absurd z (by simp)), r, q⟩
end

/-! ### calls -/
/-- f(..): the written arguments, then the defaults dvs; E: what is wanted of an exception -/
def tCall (sp : Sp) (dvs : List V) (E : XK) (t : TA) : TE := fun σ H Q => t σ H fun vs H1 => sp (vs ++ dvs) H1 Q E
/-- o.m(..) of an instance of the class at C -/
def tMeth (C : Addr) (m : Str) (sp : Sp) (dvs : List V) (E : XK) (ta : TE) (t : TA) : TE := fun σ H Q => ta σ H fun x H1 => ∃ a dx fs, x = .ref a ∧ H1 a = some (.ins C dx fs) ∧ fs.lookup m = none ∧
  t σ H1 fun vs H2 => sp (x :: (vs ++ dvs)) H2 Q E
/-- C(..): a new instance and its dict, then __init__ -/
def tMake (C : Addr) (sp : Sp) (dvs : List V) (E : XK) (t : TA) : TE := fun σ H Q => t σ H fun vs H1 => ∀ x dx, H1 x = none → H1 dx = none → dx ≠ x →
  sp (.ref x :: (vs ++ dvs)) (upd (upd H1 dx (.own x)) x (.ins C dx [])) (fun v H2 => v = .non ∧ Q (.ref x) H2) E

/-- how the parameters are bound: us the positional arguments, kw the keywords' values by name, ds the defaults that fill up -/
def Binds (K : PySem.W.Frag) (fd : FuncData) (ps : List Str) (ds : List Value) : Prop :=
  ∀ (s : Shared) (us : List Value), K.In s.heap → (us ++ ds).length = ps.length → BindsTo s fd ⟨us, []⟩ (ps.zip (us ++ ds))
/-- every parameter is given -/
theorem Binds.all {K : PySem.W.Frag} {fd : FuncData} {ps : List Str} (h : ∀ us : List Value, us.length = ps.length → bindArgs fd ⟨us, []⟩ = pure (ps.zip us)) : Binds K fd ps [] := fun s us _ hl => by
  rw [List.append_nil] at hl ⊢
  exact .of_eq (h us hl)

/-- an exception of a callee reaches what this body wants of exceptions -/
def Passes (CX : CXT) (X : Cx) (E : XK) : Prop := ∀ (pins : List (Addr × Obj)) (σ : St) (H : Hp) (s : Shared) (e : Value) (s' : Shared), Inv X pins σ H s → CX X.stack H s E e s' → X.xe e s'

section
variable {X : Cx} {CX : CXT} {k : Nat} {f C : Addr} {fd : FuncData} {ps : List Str} {sp : Sp} {dvs : List V} {ds : List Value} {E : XK} {x m : Str} {p pos apos : Pos} {e o : Expr} {es : List Expr} {ta : TE} {t : TA}

/-- the callee runs -/
theorem run_fn {pins : List (Addr × Obj)} {σ : St} {H : Hp} {s : Shared} {Q : VK} {us : List Value} {vs : List V} (F : FnOk X.prog X.w X.K X.mg X.base CX k f fd ps sp) (hr : Room k X.A) (hb : Binds X.K fd ps ds) (hd : Vals dvs ds) (hx : Passes CX X E)
    (I : Inv X pins σ H s) (r : Vals vs us) (h : sp (vs ++ dvs) H Q E) : wpAny (model X.prog X.w) X.A (call (.ref f) us) (EP X pins σ Q) X.xe s := by
  have r2 : Vals (vs ++ dvs) (us ++ ds) := r.append hd
  have hl : (us ++ ds).length = ps.length := by rw [← r2.length]; exact F.len _ _ _ _ h
  refine wpAny_call (codeAny_mono (F.run X.A X.stack s H ⟨us, []⟩ (us ++ ds) (vs ++ dvs) Q E hr I.env0 (hb s us I.kIn hl) r2 h) fun r s' hq => ?_)
  cases r with
  | error e => exact hx pins σ H s e s' I hq
  | ok fl =>
    cases fl with
    | ret u => exact I.after hq
    | next => exact False.elim hq
    | brk => exact False.elim hq
    | cont => exact False.elim hq

theorem pe_call (F : FnOk X.prog X.w X.K X.mg X.base CX k f fd ps sp) (hr : Room k X.A) (hg : Gl X x) (hm : X.mg x = some (.ref f)) (hk : PySem.W.keepIn X.K (.ref f) = true) (hb : Binds X.K fd ps ds) (hd : Vals dvs ds) (hx : Passes CX X E)
    (ha : PA X (e :: es) t) (hdb : (x == ("__debug__" : Str)) = false := by decide) (he : starEach (e :: es) X.env = (false, eval e X.env) :: starEach es X.env := by rfl) (hpl : (backTo pos (starEach es X.env)).any (·.1) = false := by rfl) :
    PE X (.Call (.Name x p) (e :: es) [] pos) (tCall sp dvs E t) := by
  intro pins s σ H Q I h
  refine wpAny_Call_Name_kw (ld_glob I hg hm ?_ hdb)
  refine PySem.W.callWith_K (h₀ := X.base) I.ok.mod.kin hk (thn (ha pos pins s σ H _ I h) fun us s1 ⟨vs, H1, I1, r, q⟩ => ⟨I1.kIn, ?_⟩) he hpl
  exact run_fn F hr hb hd hx I1 r q
theorem pe_call0 (F : FnOk X.prog X.w X.K X.mg X.base CX k f fd ps sp) (hr : Room k X.A) (hg : Gl X x) (hm : X.mg x = some (.ref f)) (hk : PySem.W.keepIn X.K (.ref f) = true) (hb : Binds X.K fd ps ds) (hd : Vals dvs ds) (hx : Passes CX X E)
    (hdb : (x == ("__debug__" : Str)) = false := by decide) : PE X (.Call (.Name x p) [] [] pos) (tCall sp dvs E tNil) := by
  intro pins s σ H Q I h
  refine wpAny_Call_Name_kw (ld_glob I hg hm ?_ hdb)
  exact PySem.W.callWith_K0 I.kIn hk (run_fn (us := []) F hr hb hd hx I .nil h)

/-- o.m(e, ..) -/
theorem pe_meth {pl : Sem Bool} (he : PE X o ta) (c : Cls X.K C) (hm : Meth X.K C m f) (F : FnOk X.prog X.w X.K X.mg X.base CX k f fd ps sp) (hr : Room k X.A) (hb : Binds X.K fd ps ds) (hd : Vals dvs ds) (hx : Passes CX X E) (ha : PA X (e :: es) t)
    (hst : starEach (e :: es) X.env = (false, eval e X.env) :: starEach es X.env := by rfl) (hpl : (backTo pos (starEach es X.env)).any (·.1) = false := by rfl)
    (ht : eval (.Call (.Attribute o m apos) (e :: es) [] pos) X.env = (do
      let ov ← eval o X.env
      standAt apos.atName
      let (f, first) ← holding [ov] (getMethod ov m pl)
      callWith pos f first (backTo pos (starEach (e :: es) X.env)) (backToKw pos (keywordEach [] X.env))) := by rfl) :
    PE X (.Call (.Attribute o m apos) (e :: es) [] pos) (tMeth C m sp dvs E ta t) := by
  intro pins s σ H Q I h
  refine PySem.W.methodCall_KW (pl := pl) (thn (he pins s σ H _ I h) fun u s1 ⟨x, H1, I1, rx, a, dx, fs, ex, ea, l, q⟩ => ?_) ht
  subst ex
  obtain rfl : u = Value.ref a := rx
  refine getmeth_ok I1 ea c hm l ?_
  refine PySem.W.callWith_K (first := [.ref a]) (h₀ := X.base) I.ok.mod.kin hm.kp (thn (ha pos pins s1 σ H1 _ I1 q) fun us s2 ⟨vs, H2, I2, r, q2⟩ => ⟨I2.kIn, ?_⟩) hst hpl
  exact run_fn (us := .ref a :: us) (vs := .ref a :: vs) F hr hb hd hx I2 (.cons rfl r) q2
/-- o.m() -/
theorem pe_meth0 {pl : Sem Bool} (he : PE X o ta) (c : Cls X.K C) (hm : Meth X.K C m f) (F : FnOk X.prog X.w X.K X.mg X.base CX k f fd ps sp) (hr : Room k X.A) (hb : Binds X.K fd ps ds) (hd : Vals dvs ds) (hx : Passes CX X E)
    (ht : eval (.Call (.Attribute o m apos) [] [] pos) X.env = (do
      let ov ← eval o X.env
      standAt apos.atName
      let (f, first) ← holding [ov] (getMethod ov m pl)
      callWith pos f first (backTo pos (starEach [] X.env)) (backToKw pos (keywordEach [] X.env))) := by rfl) :
    PE X (.Call (.Attribute o m apos) [] [] pos) (tMeth C m sp dvs E ta tNil) := by
  intro pins s σ H Q I h
  refine PySem.W.methodCall_KW (pl := pl) (thn (he pins s σ H _ I h) fun u s1 ⟨x, H1, I1, rx, a, dx, fs, ex, ea, l, q⟩ => ?_) ht
  subst ex
  obtain rfl : u = Value.ref a := rx
  refine getmeth_ok I1 ea c hm l ?_
  exact PySem.W.callWith_K0 (first := [.ref a]) I1.kIn hm.kp (run_fn (us := [.ref a]) (vs := [.ref a]) F hr hb hd hx I1 (.cons rfl .nil) q)

/-- what a class must have to be made -/
structure Mk (K : PySem.W.Frag) (C f : Addr) : Prop where
  makes : PySem.W.makesIn K C = true
  init : PySem.W.findIn K (.ref C) "__init__" = some (some (.ref f))
  fn : PySem.W.isFn K (.ref f) = true
  kp : PySem.W.keepIn K (.ref C) = true

theorem run_make {pins : List (Addr × Obj)} {σ : St} {H : Hp} {s : Shared} {Q : VK} {us : List Value} {vs : List V} (M : Mk X.K C f) (F : FnOk X.prog X.w X.K X.mg X.base CX k f fd ps sp) (hr : Room (k + 1) X.A) (hb : Binds X.K fd ps ds) (hd : Vals dvs ds)
    (hx : Passes CX X E) (I : Inv X pins σ H s) (r : Vals vs us)
    (h : ∀ x dx, H x = none → H dx = none → dx ≠ x → sp (.ref x :: (vs ++ dvs)) (upd (upd H dx (.own x)) x (.ins C dx [])) (fun v H2 => v = .non ∧ Q (.ref x) H2) E) :
    wpAny (model X.prog X.w) X.A (call (.ref C) us) (EP X pins σ Q) X.xe s := by
  have hq := h (s.heap.objs.size + 1) s.heap.objs.size (I.hok.fresh (Nat.le_succ _)) (I.hok.fresh (Nat.le_refl _)) (Nat.ne_of_lt (Nat.lt_succ_self _))
  have I2 := Inv.made (C := C) I
  have r2 : Vals (V.ref (s.heap.objs.size + 1) :: (vs ++ dvs)) (Value.ref (s.heap.objs.size + 1) :: (us ++ ds)) := .cons rfl (r.append hd)
  have hl : (Value.ref (s.heap.objs.size + 1) :: us ++ ds).length = ps.length := by
    have e := r2.length
    rw [F.len _ _ _ _ hq] at e
    exact e.symm
  refine wpAny_call (make_map (f := f) I.kIn M.makes M.init (beq_iff_eq.mp M.fn) (codeAny_mono (F.run _ X.stack _ _ ⟨Value.ref (s.heap.objs.size + 1) :: us, []⟩ (Value.ref (s.heap.objs.size + 1) :: (us ++ ds)) _ _ E (hr.make C us [])
    (I2.env0.make C us []) (hb _ (Value.ref (s.heap.objs.size + 1) :: us) I2.kIn hl) r2 hq) fun r s' hq' => ?_))
  cases r with
  | error e => exact hx pins σ _ _ e s' I2 hq'
  | ok fl =>
    cases fl with
    | ret u =>
      obtain ⟨v, H', I3, rv, ev, q3⟩ := I2.after hq'
      subst ev
      exact ⟨rv, ⟨V.ref (s.heap.objs.size + 1), H', I3, rfl, q3⟩⟩
    | next => exact False.elim hq'
    | brk => exact False.elim hq'
    | cont => exact False.elim hq'
theorem pe_make (M : Mk X.K C f) (F : FnOk X.prog X.w X.K X.mg X.base CX k f fd ps sp) (hr : Room (k + 1) X.A) (hg : Gl X x) (hm : X.mg x = some (.ref C)) (hb : Binds X.K fd ps ds) (hd : Vals dvs ds) (hx : Passes CX X E)
    (ha : PA X (e :: es) t) (hdb : (x == ("__debug__" : Str)) = false := by decide) (he : starEach (e :: es) X.env = (false, eval e X.env) :: starEach es X.env := by rfl) (hpl : (backTo pos (starEach es X.env)).any (·.1) = false := by rfl) :
    PE X (.Call (.Name x p) (e :: es) [] pos) (tMake C sp dvs E t) := by
  intro pins s σ H Q I h
  refine wpAny_Call_Name_kw (ld_glob I hg hm ?_ hdb)
  refine PySem.W.callWith_K (h₀ := X.base) I.ok.mod.kin M.kp (thn (ha pos pins s σ H _ I h) fun us s1 ⟨vs, H1, I1, r, q⟩ => ⟨I1.kIn, ?_⟩) he hpl
  exact run_make M F hr hb hd hx I1 r q
theorem pe_make0 (M : Mk X.K C f) (F : FnOk X.prog X.w X.K X.mg X.base CX k f fd ps sp) (hr : Room (k + 1) X.A) (hg : Gl X x) (hm : X.mg x = some (.ref C)) (hb : Binds X.K fd ps ds) (hd : Vals dvs ds) (hx : Passes CX X E)
    (hdb : (x == ("__debug__" : Str)) = false := by decide) : PE X (.Call (.Name x p) [] [] pos) (tMake C sp dvs E tNil) := by
  intro pins s σ H Q I h
  refine wpAny_Call_Name_kw (ld_glob I hg hm ?_ hdb)
  exact PySem.W.callWith_K0 I.kIn M.kp (run_make (us := []) M F hr hb hd hx I .nil h)
end

/-! ### keywords -/
/-- the values of the keywords, from the left -/
def PK (X : Cx) (kws : List Keyword) (t : TA) : Prop :=
  ∀ (pos : Pos) (pins : List (Addr × Obj)) (s : Shared) (σ : St) (H : Hp) (Q : List V → Hp → Prop), Inv X pins σ H s → t σ H Q → wpAny (model X.prog X.w) X.A (evalAll ((backToKw pos (keywordEach kws X.env)).map (·.2))) (AP X pins σ Q) X.xe s
section
variable {X : Cx} {CX : CXT} {k : Nat} {f C : Addr} {fd : FuncData} {ps ks : List Str} {sp : Sp} {E : XK} {x m : Str} {p pos apos kpos : Pos} {e o : Expr} {es : List Expr} {kws : List Keyword} {te ta : TE} {t tk : TA} {nm : Option Str}
theorem pk_nil : PK X [] tNil := fun _ _ _ _ H Q I h => wpAny_evalAll_nil ⟨[], H, I, .nil, h⟩
theorem pk_cons (ha : PE X e te) (hr : PK X kws t) : PK X (⟨nm, e, kpos⟩ :: kws) (tCons te t) := by
  intro pos pins s σ H Q I h
  show wpAny _ _ (evalAll ((do let v ← eval e X.env; standAt pos; pure v) :: (backToKw pos (keywordEach kws X.env)).map (·.2))) _ _ s
  refine wpAny_evalAll_cons (wpAny_bind (thn (ha pins s σ H _ I h) fun u s1 ⟨x, H1, I1, r1, q1⟩ => wpAny_bind (wpAny_standAt (wpAny_pure ?_))))
  exact thn (hr pos pins s1 σ H1 _ I1 q1) fun us s2 ⟨xs, H2, I2, r2, q2⟩ => ⟨x :: xs, H2, I2, .cons r1 r2, q2⟩

/-- how a call with keywords binds: g puts the positional values us and the keywords' values ws (names ks) in the parameters' order, defaults among them -/
structure KBinds (K : PySem.W.Frag) (fd : FuncData) (ps ks : List Str) (g : List Value → List Value → List Value) (gV : List V → List V → List V) : Prop where
  to : ∀ (s : Shared) (us ws : List Value), K.In s.heap → (g us ws).length = ps.length → BindsTo s fd ⟨us, ks.zip ws⟩ (ps.zip (g us ws))
  rel : ∀ {vs : List V} {us : List Value} {zs : List V} {ws : List Value}, Vals vs us → Vals zs ws → Vals (gV vs zs) (g us ws)
def tCallK (sp : Sp) (gV : List V → List V → List V) (E : XK) (t tk : TA) : TE := fun σ H Q => t σ H fun vs H1 => tk σ H1 fun zs H2 => sp (gV vs zs) H2 Q E
variable {g : List Value → List Value → List Value} {gV : List V → List V → List V}
theorem run_fnk {pins : List (Addr × Obj)} {σ : St} {H : Hp} {s : Shared} {Q : VK} {us ws : List Value} {vs zs : List V} (F : FnOk X.prog X.w X.K X.mg X.base CX k f fd ps sp) (hr : Room k X.A) (hb : KBinds X.K fd ps ks g gV) (hx : Passes CX X E)
    (I : Inv X pins σ H s) (r : Vals vs us) (rz : Vals zs ws) (h : sp (gV vs zs) H Q E) : wpAny (model X.prog X.w) X.A (call (.ref f) us (ks.zip ws)) (EP X pins σ Q) X.xe s := by
  have r2 := hb.rel r rz
  have hl : (g us ws).length = ps.length := by rw [← r2.length]; exact F.len _ _ _ _ h
  refine wpAny_call (codeAny_mono (F.run X.A X.stack s H ⟨us, ks.zip ws⟩ (g us ws) (gV vs zs) Q E hr I.env0 (hb.to s us ws I.kIn hl) r2 h) fun r s' hq => ?_)
  cases r with
  | error e => exact hx pins σ H s e s' I hq
  | ok fl =>
    cases fl with
    | ret u => exact I.after hq
    | next => exact False.elim hq
    | brk => exact False.elim hq
    | cont => exact False.elim hq
/-- f(e, .., k = v, ..) -/
theorem pe_callK (F : FnOk X.prog X.w X.K X.mg X.base CX k f fd ps sp) (hr : Room k X.A) (hg : Gl X x) (hm : X.mg x = some (.ref f)) (hk : PySem.W.keepIn X.K (.ref f) = true) (hb : KBinds X.K fd ps ks g gV) (hx : Passes CX X E)
    (ha : PA X (e :: es) t) (hkw : PK X kws tk) (hall : (backToKw pos (keywordEach kws X.env)).all (·.1.isSome) = true := by rfl) (hks : (backToKw pos (keywordEach kws X.env)).filterMap (·.1) = ks := by rfl)
    (hdb : (x == ("__debug__" : Str)) = false := by decide) (he : starEach (e :: es) X.env = (false, eval e X.env) :: starEach es X.env := by rfl)
    (hpl : ((backTo pos (starEach (e :: es) X.env)).any (·.1) || (backToKw pos (keywordEach kws X.env)).any (·.1.isNone)) = false := by rfl) :
    PE X (.Call (.Name x p) (e :: es) kws pos) (tCallK sp gV E t tk) := by
  intro pins s σ H Q I h
  refine wpAny_Call_Name_kw (ld_glob I hg hm ?_ hdb)
  refine PySem.W.callWith_KW (h₀ := X.base) I.ok.mod.kin hk hall (thn (ha pos pins s σ H _ I h) fun us s1 ⟨vs, H1, I1, r, q⟩ => ?_) hpl he
  refine thn (hkw pos pins s1 σ H1 _ I1 q) fun ws s2 ⟨zs, H2, I2, rz, q2⟩ => ⟨I2.kIn, ?_⟩
  rw [hks]
  exact run_fnk F hr hb hx I2 r rz q2
end

/-! ### a def's body keeps its promise -/
/-- names: the parameters first -/
structure FnScope (N P : List Str) (sc : Scope) : Prop where
  kind : sc.kind = .function
  co : sc.isCoroutine = false
  gen : sc.isGenerator = false
  nd : N.Nodup
  pre : N.take P.length = P
  par : ∀ x ∈ P, sc.names.lookup x = some .local ∨ sc.names.lookup x = some .cell
  nofree : ∀ y ∈ sc.names, y.2 ≠ .free

theorem bindL_out {kindOf : Str → Option NameKind} {x : Str} : ∀ {binds : List (Str × Value)} {m : Str → Option Value}, (∀ v, (x, v) ∉ binds) → bindL kindOf binds m x = m x
  | [], _, _ => rfl
  | (n, v) :: r, m, h => by
    unfold bindL
    rw [bindL_out fun w hw => h w (List.mem_cons_of_mem _ hw)]
    split
    · have : x ≠ n := by rintro rfl; exact h v List.mem_cons_self
      simp [this]
    · rfl
theorem bindC_out {kindOf : Str → Option NameKind} {x : Str} : ∀ {binds : List (Str × Value)} {m : Str → Option Value}, (∀ v, (x, v) ∉ binds) → bindC kindOf binds m x = m x
  | [], _, _ => rfl
  | (n, v) :: r, m, h => by
    unfold bindC
    rw [bindC_out fun w hw => h w (List.mem_cons_of_mem _ hw)]
    split
    · rfl
    · have : x ≠ n := by rintro rfl; exact h v List.mem_cons_self
      simp [this]
theorem bindL_get {kindOf : Str → Option NameKind} {x : Str} {v : Value} : ∀ {P : List Str} {vs : List Value} {i : Nat} {m : Str → Option Value}, P.Nodup → P[i]? = some x → vs[i]? = some v → kindOf x = some .local →
    bindL kindOf (P.zip vs) m x = some v
  | [], _, _, _, _, h, _, _ => by simp at h
  | _ :: _, [], _, _, _, _, h, _ => by simp at h
  | p :: P, w :: vs, 0, m, nd, h1, h2, hk => by
    simp at h1 h2; subst h1; subst h2
    show bindL kindOf ((p, w) :: P.zip vs) m p = _
    unfold bindL
    rw [bindL_out fun v hv => (List.nodup_cons.mp nd).1 (List.of_mem_zip hv).1, if_pos hk]
    simp
  | p :: P, w :: vs, i + 1, m, nd, h1, h2, hk => by
    show bindL kindOf ((p, w) :: P.zip vs) m x = _
    unfold bindL
    exact bindL_get (i := i) (List.nodup_cons.mp nd).2 (by simpa using h1) (by simpa using h2) hk
theorem bindC_get {kindOf : Str → Option NameKind} {x : Str} {v : Value} : ∀ {P : List Str} {vs : List Value} {i : Nat} {m : Str → Option Value}, P.Nodup → P[i]? = some x → vs[i]? = some v → kindOf x ≠ some .local →
    bindC kindOf (P.zip vs) m x = some v
  | [], _, _, _, _, h, _, _ => by simp at h
  | _ :: _, [], _, _, _, _, h, _ => by simp at h
  | p :: P, w :: vs, 0, m, nd, h1, h2, hk => by
    simp at h1 h2; subst h1; subst h2
    show bindC kindOf ((p, w) :: P.zip vs) m p = _
    unfold bindC
    rw [bindC_out fun v hv => (List.nodup_cons.mp nd).1 (List.of_mem_zip hv).1, if_neg hk]
    simp
  | p :: P, w :: vs, i + 1, m, nd, h1, h2, hk => by
    show bindC kindOf ((p, w) :: P.zip vs) m x = _
    unfold bindC
    exact bindC_get (i := i) (List.nodup_cons.mp nd).2 (by simpa using h1) (by simpa using h2) hk

/-- the names' values at the entry -/
def start (N : List Str) (vs : List V) : St := vs.map some ++ List.replicate (N.length - vs.length) none

/-- the context of a def's body, at its entry; an exception leaves the frame, then lies as CX says -/
def cxOf (CX : CXT) (P : Program) (w : World) (K : PySem.W.Frag) (mg : Str → Option Value) (base : Heap) (N : List Str) (qual : Str) (scope : Scope) (f : Addr) (cd : Value) (A : Around) (outer : List Env) (s : Shared) (H : Hp) (E : XK) : Cx where
  prog := P
  w := w
  K := K
  mg := mg
  base := base
  A := A.deeper (envOfC qual scope s.heap.objs.size f cd)
  N := N
  s₀ := s
  H₀ := H
  env := envOfC qual scope s.heap.objs.size f cd
  outer := outer
  stack := envOfC qual scope s.heap.objs.size f cd :: outer
  ex := []
  calm := true
  fn := fun _ => true
  pn := []
  xe := fun e s' => wpAny (model P w) (A.deeper (envOfC qual scope s.heap.objs.size f cd)) (leaving (envOfC qual scope s.heap.objs.size f cd) e) (fun _ s'' => CX outer H s E e s'') (fun e' s'' => CX outer H s E e' s'') s'

theorem cell_has {sc : Scope} {n : Nat} {x : Str} (h : sc.names.lookup x = some .cell) : ∃ c, (cellsFrom n sc.names []).lookup x = some c := by
  have q := PySem.W.cellsFrom_some sc.names n [] (.inl h)
  exact Option.isSome_iff_exists.mp q

theorem inv_start {CX : CXT} {P : Program} {w : World} {K : PySem.W.Frag} {mg : Str → Option Value} {base : Heap} {N ps : List Str} {qual : Str} {scope : Scope} {f : Addr} {cd : Value} {A : Around} {outer : List Env} {s s1 : Shared} {H : Hp} {E : XK} {us : List Value} {vs : List V}
    (S : FnScope N ps scope) (hd : A.handled = none) (e0 : Env0 P w K mg base A outer s H) (hl : vs.length = ps.length) (r : Vals vs us)
    (x : InCallC s s.heap.objs.size (bindL (envOfC qual scope s.heap.objs.size f cd).kindOf (ps.zip us) fun _ => none) (cellsFrom (s.heap.objs.size + 1) scope.names []) (bindC (envOfC qual scope s.heap.objs.size f cd).kindOf (ps.zip us) fun _ => none) s1) :
    Inv (cxOf CX P w K mg base N qual scope f cd A outer s H E) [] (start N vs) H s1 := by
  have hpl : ps.length ≤ N.length := by have := congrArg List.length S.pre; rw [List.length_take] at this; omega
  obtain ⟨h1, tk, rfl, hk⟩ := x.done
  have noA : ∀ b : Addr, b ∉ (cxOf CX P w K mg base N qual scope f cd A outer s H E).ex := fun b z => absurd (show b ∈ ([] : List Addr) from z) (by simp)
  refine ⟨⟨e0.mod, S.kind, rfl, rfl, Nat.le_refl _, fun y z c h1 h2 => ?_, fun y hy => ?_, fun y c _ h => ?_, fun _ => hd, Around.frames_deeper e0.frames, .inr ⟨rfl, rfl⟩, fun b z => absurd z (noA b), e0.bs, e0.bsz, fun b _ _ => noA b, fun b z => absurd z (noA b), e0.funs, e0.frf⟩,
    rfl, e0.bare, Un.kept hk, ⟨_, x.toInCall.ns, fun i y v h1 h2 h3 => ?_⟩, fun y c h => ⟨_, x.cell y c h⟩, e0.hok.fresh (Nat.le_refl _), fun y c h => ?_, fun p hp => absurd (show p ∈ ([] : List (Addr × Obj)) from hp) (by simp), e0.hok.kept hk, ?_⟩
  · exact name_of_addr x.apart (PySem.mem_of_lookup h1) (PySem.mem_of_lookup h2)
  · have hy : scope.names.lookup y = some .cell ∨ scope.names.lookup y = some .free := hy
    rcases hy with hy | hy
    · exact cell_has hy
    · exact absurd rfl (S.nofree _ (PySem.mem_of_lookup hy))
  · exact Nat.le_of_lt (x.above y c (PySem.mem_of_lookup h))
  · have hi : i < vs.length := by
      unfold start at h2
      by_cases hi : i < vs.length
      · exact hi
      · rw [List.getElem?_append_right (by simpa using hi)] at h2
        rw [List.getElem?_replicate] at h2
        split at h2 <;> cases h2
    have ha : vs[i]? = some v := by
      unfold start at h2
      rw [List.getElem?_append_left (by simpa using hi), List.getElem?_map] at h2
      cases e : vs[i]? with
      | none => rw [e] at h2; cases h2
      | some a => rw [e] at h2; cases h2; rfl
    obtain ⟨u, hu, rv⟩ := r.get ha
    have hp : ps[i]? = some y := by
      rw [← S.pre, List.getElem?_take_of_lt (by omega)]; exact h1
    have ndP : ps.Nodup := by rw [← S.pre]; exact S.nd.sublist (List.take_sublist _ _)
    refine ⟨u, rv, ?_⟩
    rcases S.par y (List.mem_of_getElem? hp) with k | k
    · exact .inl ⟨k, bindL_get ndP hp hu k⟩
    · obtain ⟨c, e⟩ := cell_has (n := s.heap.objs.size + 1) k
      refine .inr ⟨.inl k, c, e, ?_⟩
      have q := x.cell y c e
      rw [bindC_get ndP hp hu (by show scope.names.lookup y ≠ _; rw [k]; decide)] at q
      exact q
  · exact e0.hok.fresh (Nat.le_of_lt (x.above y c (PySem.mem_of_lookup h)))
  · unfold start
    show _ = N.length
    rw [List.length_append, List.length_map, List.length_replicate]
    omega

/-- THE RULE: a def (or a method) of the text, by its body. The body's reading t is chosen for each entry; it is run at the parameters' values -/
theorem fn_of {CX : CXT} {P : Program} {w : World} {K : PySem.W.Frag} {mg : Str → Option Value} {base : Heap} {k : Nat} {f : Addr} {name qual : Str} {params : Arguments} {body : List Stmt} {scope : Scope} {dV kV doc pm cdv ct oc : Value} {an od : Option Addr}
    {osl : Array (Option Value)} {N ps : List Str} {sp : Sp} (lk : K.lookup f = some ⟨oc, od, .func (PySem.W.fnOf name qual params body scope dV kV doc pm an cdv ct), osl⟩) (hcd : PySem.W.codeIn K cdv qual = true) (S : FnScope N ps scope)
    (len : ∀ vs H Q E, sp vs H Q E → vs.length = ps.length)
    (hbody : ∀ (A : Around) (outer : List Env) (s : Shared) (H : Hp) (vs : List V) (Q : VK) (E : XK), Room k (A.deeper (envOfC qual scope s.heap.objs.size f cdv)) → sp vs H Q E →
      ∃ t, PSs (cxOf CX P w K mg base N qual scope f cdv A outer s H E) body t ∧ t { nx := fun _ H' => Q .non H', rt := Q } (start N vs) H) :
    FnOk P w K mg base CX (k + 1) f (PySem.W.fnOf name qual params body scope dV kV doc pm an cdv ct) ps sp := by
  refine ⟨len, fun A outer s H args us vs Q E hr e0 hb r hsp => ?_⟩
  have hl := len _ _ _ _ hsp
  have KX : K.In s.heap := e0.mod.kin.keeps fun b o e => (e0.bs b o e).1
  have lim : s.heap.NoLimit := e0.mod.nolimit.keeps fun b o e => (e0.bs b o e).1
  have hkind : ∀ y ∈ ps.zip us, scope.names.lookup y.1 = some .local ∨ (scope.names.lookup y.1 = some .cell ∧ ((cellsFrom (s.heap.objs.size + 1) scope.names []).lookup y.1).isSome = true) := fun ⟨n, v⟩ hy => by
    rcases S.par n (List.of_mem_zip hy).1 with q | q
    · exact .inl q
    · exact .inr ⟨q, PySem.W.cellsFrom_some _ _ _ (.inl q)⟩
  refine codeAny_call_function hr.depth (KX _ _ lk) rfl S.co S.gen rfl (PySem.W.codeRec_of KX hcd) (hb _ _ _ _ ?_)
  refine wpAny_newFunctionEnv_cells S.kind hkind fun env he s1 x => ?_
  subst he
  refine ⟨lim.keeps x.toInCall.keep, codeAny_func ?_⟩
  obtain ⟨t, ht, hq⟩ := hbody A outer s H vs Q E (hr.deeper _) hsp
  have I : Inv (cxOf CX P w K mg base N qual scope f cdv A outer s H E) [] (start N vs) H s1 := inv_start S hr.hd e0 hl r x
  refine wpAny_mono (ht [] s1 (start N vs) H _ I hq) (fun fl s' hs => ?_) fun e s' hs => hs
  have fin : ∀ {σ' : St} {H' : Hp} {v : V} {u : Value}, Inv (cxOf CX P w K mg base N qual scope f cdv A outer s H E) [] σ' H' s' → RelV v u → Q v H' → CE outer P w H s Q u s' :=
    fun {σ' H' v u} J rv q => ⟨v, H', J.os, J.bare, J.base, J.hok, rv, q⟩
  cases fl with
  | ret u =>
    obtain ⟨v, σ', H', J, rv, q⟩ := hs
    exact fin J rv q
  | next =>
    obtain ⟨σ', H', J, q⟩ := hs
    exact fin (v := V.non) (u := Value.none) J rfl q
  | brk =>
    obtain ⟨_, _, _, q⟩ := hs
    exact False.elim q
  | cont =>
    obtain ⟨_, _, _, q⟩ := hs
    exact False.elim q
end L2

namespace L2
open PySem PySem.Spec PyProof.Rows
section
variable {X : Cx} {x : Str} {p pos : Pos} {e : Expr} {es : List Expr} {t : TA} {id T : String} {r : List V → Hp → VK → Prop}

def tCB (r : List V → Hp → VK → Prop) (t : TA) : TE := fun σ H Q => t σ H fun vs H1 => r vs H1 Q
/-- f(e, ..), f a built-in function -/
theorem pe_callB (hc : CallR X (.builtin id) r) (hg : Gl X x) (hm : X.mg x = none) (hv : bootBuiltins x = some (.builtin id)) (ha : PA X (e :: es) t) (hn : x ≠ "__name__" := by decide) (hdb : (x == ("__debug__" : Str)) = false := by decide)
    (he : starEach (e :: es) X.env = (false, eval e X.env) :: starEach es X.env := by rfl) (hpl : (backTo pos (starEach es X.env)).any (·.1) = false := by rfl) : PE X (.Call (.Name x p) (e :: es) [] pos) (tCB r t) := by
  intro pins s σ H Q I h
  refine wpAny_Call_Name_kw (ld_blt I hg hm hv ?_ hn hdb)
  exact PyProof.Rows.callWith_builtin1 (thn (ha pos pins s σ H _ I h) fun us s1 ⟨vs, H1, I1, r1, q1⟩ => hc pins s1 σ H1 vs us Q I1 r1 q1) he hpl
/-- T(e, ..), T a built-in type -/
theorem pe_callTy (hc : CallR X (.type T) r) (hg : Gl X x) (hm : X.mg x = none) (hv : bootBuiltins x = some (.type T)) (ha : PA X (e :: es) t) (hn : x ≠ "__name__" := by decide) (hdb : (x == ("__debug__" : Str)) = false := by decide)
    (he : starEach (e :: es) X.env = (false, eval e X.env) :: starEach es X.env := by rfl) (hpl : (backTo pos (starEach es X.env)).any (·.1) = false := by rfl) : PE X (.Call (.Name x p) (e :: es) [] pos) (tCB r t) := by
  intro pins s σ H Q I h
  refine wpAny_Call_Name_kw (ld_blt I hg hm hv ?_ hn hdb)
  exact PyProof.Rows.callWith_type1 (thn (ha pos pins s σ H _ I h) fun us s1 ⟨vs, H1, I1, r1, q1⟩ => hc pins s1 σ H1 vs us Q I1 r1 q1) he hpl
/-- T() -/
theorem pe_callTy0 (hc : CallR X (.type T) r) (hg : Gl X x) (hm : X.mg x = none) (hv : bootBuiltins x = some (.type T)) (hn : x ≠ "__name__" := by decide) (hdb : (x == ("__debug__" : Str)) = false := by decide) :
    PE X (.Call (.Name x p) [] [] pos) (tCB r tNil) := by
  intro pins s σ H Q I h
  refine wpAny_Call_Name_kw (ld_blt I hg hm hv ?_ hn hdb)
  exact PyProof.Rows.callWith_type0 (hc pins s σ H [] [] Q I .nil h)
end
end L2

namespace HT
open PySem PyProof.Rows

/-- t < u of tuples of ints -/
def lexLt : List Int → List Int → Bool
  | [], [] => false
  | [], _ :: _ => true
  | _ :: _, [] => false
  | x :: xs, y :: ys => if x = y then lexLt xs ys else decide (x < y)
theorem lexLt_cons (x y : Int) (xs ys : List Int) : lexLt (x :: xs) (y :: ys) = if x = y then lexLt xs ys else decide (x < y) := rfl
theorem lexLt_nil_nil : lexLt [] [] = false := rfl
theorem lexLt_nil_cons (y : Int) (ys : List Int) : lexLt [] (y :: ys) = true := rfl
theorem lexLt_cons_nil (x : Int) (xs : List Int) : lexLt (x :: xs) [] = false := rfl

theorem eqAt_int (A : Around) (s : Shared) (a : Int) (t : Tok) (c : Int) (u : Tok) : ∃ e, SeqAt.EqAt A s (.int a t) (.int c u) e ∧ (e = true ↔ a = c) :=
  ⟨(a == c), SeqAt.EqAt.int_int a t c u, by simp⟩
theorem rcLt_int (A : Around) (s : Shared) (a : Int) (t : Tok) (c : Int) (u : Tok) (prog : Program) (w : World) (E : Value → Shared → Prop) (Q : Value → Shared → Prop) (h : Q (.bool (decide (a < c))) s) :
    wpAny (model prog w) A (richCompare .Lt (.int a t) (.int c u)) Q E s :=
  (PyProof.Rows.lt_int h : wpAny (model prog w) A (compareOp .Lt (.int a t) (.int c u)) Q E s)

section
open PySem.SeqAt
open PySem.AutoSeq1 (wpAny_loadPart')
open PySem.MeetsSeq PySem.MeetsSeq2 PySem.MeetsSeq3

theorem tuple_lt_ints (l b : Addr) (items items2 : Array Value) (n n2 : Nat) (dd dd2 : Option Addr) (sl sl2 : Array (Option Value)) (ns ms : List Int) (hi : IntsAre items.toList ns) (hj : IntsAre items2.toList ms) :
    Meets (Builtin.«tuple.__lt__» ⟨[.ref l, .ref b], []⟩)
      (fun _ R s => s.heap.get? l = some { cls := .type "tuple", dict := dd, data := .seq items n, slots := sl } ∧ s.heap.get? b = some { cls := .type "tuple", dict := dd2, data := .seq items2 n2, slots := sl2 } ∧
        R (.ok (.ret (.bool (lexLt ns ms)))) s) :=
  .of_wp fun prog w A R s h => by
    obtain ⟨hp, g, d, tk, os⟩ := s; obtain ⟨hl, hb, h⟩ := h
    have f2 := AutoSeq1.sub_tuple_tuple
    have z1 : items.size = ns.length := by rw [← hi.length]; simp
    have z2 : items2.size = ms.length := by rw [← hj.length]; simp
    wp_walk using wpAny_loadPart' hl, wpAny_loadPart' hb, wpAny_forIn_list _ (fun rest b s' => b.1 = none ∧ s' = ⟨hp, g, d, tk, os⟩ ∧ ∃ (vs ws : List Value) (ns' ms' : List Int), rest = vs.zip ws ∧
      IntsAre vs ns' ∧ IntsAre ws ms' ∧ ns'.length + items2.size = ms'.length + items.size ∧ R (.ok (.ret (.bool (lexLt ns' ms')))) ⟨hp, g, d, tk, os⟩) _
    case turn =>
      rintro ⟨y, x⟩ rest b s' ⟨hb', rfl, vs, ws, ns', ms', hz, hvi, hwi, hlen, hR⟩
      cases hvi with
      | nil => rw [List.zip_nil_left] at hz; cases hz
      | cons a t hvi' =>
        cases hwi with
        | nil => rw [List.zip_nil_right] at hz; cases hz
        | cons c u hwi' =>
          rw [List.zip_cons_cons] at hz
          injection hz with hyx hrest
          injection hyx with hy hx
          subst hy hx
          rw [lexLt_cons] at hR
          simp only [List.length_cons] at hlen
          obtain ⟨e, he, hiff⟩ := eqAt_int A.in1 ⟨hp, g, d, tk, os⟩ a t c u
          refine wpAny_bind (he prog w _ _ ?_)
          cases e with
          | true =>
            rw [if_pos (hiff.mp rfl)] at hR
            wp_walk
            exact ⟨rfl, rfl, _, _, _, _, hrest, hvi', hwi', by omega, hR⟩
          | false =>
            rw [if_neg (fun q => absurd (hiff.mpr q) Bool.false_ne_true)] at hR
            have hri := rcLt_int A.in1 ⟨hp, g, d, tk, os⟩ a t c u prog w
            wp_walk using hri
            exact ⟨_, rfl, by simpa using hR⟩
    case fin =>
      rintro ⟨b1, b2⟩ s' ⟨hb', rfl, vs, ws, ns', ms', hz, hvi, hwi, hlen, hR⟩
      simp only at hb'
      subst hb'
      have hv : lexLt ns' ms' = decide (items.size < items2.size) := by
        cases hvi with
        | nil =>
          cases hwi with
          | nil =>
            simp only [List.length_nil] at hlen
            rw [lexLt_nil_nil]
            exact (decide_eq_false (by omega)).symm
          | cons c u hw =>
            simp only [List.length_nil, List.length_cons] at hlen
            rw [lexLt_nil_cons]
            exact (decide_eq_true (by omega)).symm
        | cons a t hv =>
          cases hwi with
          | nil =>
            simp only [List.length_nil, List.length_cons] at hlen
            rw [lexLt_cons_nil]
            exact (decide_eq_false (by omega)).symm
          | cons c u hw =>
            rw [List.zip_cons_cons] at hz
            cases hz
      rw [hv] at hR
      wp_walk
      exact ⟨_, rfl, by simpa [Builtin.Tuple.tupleCompareSizes] using hR⟩
    case h =>
      exact ⟨rfl, rfl, items.toList, items2.toList, ns, ms, rfl, hi, hj, by omega, h⟩
end

section
variable {prog : Program} {w : World} {A : Around} {E : Value → Shared → Prop} {s : Shared}

theorem lt_tupInts {l b : Addr} {items items2 : Array Value} {ns ms : List Int} {Q : Value → Shared → Prop} (hl : IsTup s.heap l items) (hb : IsTup s.heap b items2) (hi : IntsAre items.toList ns) (hj : IntsAre items2.toList ms)
    (hu : A.units < cLine) (h : Q (.bool (lexLt ns ms)) s) : wpAny (model prog w) A (compareOp .Lt (.ref l) (.ref b)) Q E s := by
  obtain ⟨⟨cls, dd, data, sl⟩, ho, hc, n, hd⟩ := id hl
  obtain ⟨⟨cls2, dd2, data2, sl2⟩, ho2, hc2, n2, hd2⟩ := id hb
  simp only at hc hd hc2 hd2
  subst hc hd hc2 hd2
  exact richCompare_meets_room (op := .Lt) ⟨_, ho, rfl⟩ ⟨_, ho2, rfl⟩ PySem.F.slot_tuple_lt PySem.F.entry_tuple_lt (PySem.F.args_tuple_lt_2 _ _) (tuple_lt_ints l b items items2 n n2 dd dd2 sl sl2 ns ms hi hj)
    ⟨ho, ho2, show Value.bool (lexLt ns ms) ≠ Value.notImplemented ∧ Q (.bool (lexLt ns ms)) s from ⟨(fun x => nomatch x), h⟩⟩ hu

/-- t + u, t not empty -/
theorem cat_tup {t b : Addr} {vs ws : List Value} {Q : Value → Shared → Prop} (ht : IsTup s.heap t vs.toArray) (hb : IsTup s.heap b ws.toArray) (hv : vs ≠ [])
    (h1 : ws = [] → Q (.ref t) s) (h2 : ws ≠ [] → Q (.ref s.heap.objs.size) { s with heap := s.heap.push { cls := .type "tuple", data := .seq (vs ++ ws).toArray } })
    (hsz : vs.length + ws.length ≤ sizeLine) : wpAny (model prog w) A (binaryOp .Add (.ref t) (.ref b)) Q E s := by
  obtain ⟨⟨cls, dd, data, sl⟩, ho, hc, n, hd⟩ := id ht
  obtain ⟨⟨cls2, dd2, data2, sl2⟩, ho2, hc2, n2, hd2⟩ := id hb
  simp only at hc hd hc2 hd2
  subst hc hd hc2 hd2
  have e : vs.toArray ++ ws.toArray = (vs ++ ws).toArray := by simp
  by_cases hw : ws = []
  · exact concat_meets ⟨_, ho, rfl⟩ ⟨_, ho2, rfl⟩ noFill_tuple_add seq_tuple_add PySem.F.slot_tuple_add PySem.F.entry_tuple_add (PySem.F.args_tuple_add_2 _ _)
      (tuple_addW1 t b vs.toArray ws.toArray n n2 dd dd2 sl sl2 (by simpa using hv) (by simp [hw])) ⟨ho, ho2, h1 hw⟩
  · refine concat_meets ⟨_, ho, rfl⟩ ⟨_, ho2, rfl⟩ noFill_tuple_add seq_tuple_add PySem.F.slot_tuple_add PySem.F.entry_tuple_add (PySem.F.args_tuple_add_2 _ _)
      (tuple_addW2 t b vs.toArray ws.toArray n n2 dd dd2 sl sl2 (by simpa using hv) (by simpa using hw) (by rw [List.size_toArray, List.size_toArray]; exact hsz)) ⟨ho, ho2, ?_⟩
    rw [e]
    exact h2 hw

/-! ### t[a:b], not the whole -/
/-- a slice's bound as a place among n (d where it is left out) -/
def sIx (n d : Nat) : Option Int → Nat
  | none => d
  | some v => if v < 0 then (v + (n : Int)).toNat else min v.toNat n
theorem sIx_none (n d : Nat) : sIx n d none = d := rfl
theorem sIx_nat (n d k : Nat) : sIx n d (some (k : Int)) = min k n := by
  show (if (k : Int) < 0 then ((k : Int) + (n : Int)).toNat else min (k : Int).toNat n) = min k n
  rw [if_neg (by omega), Int.toNat_natCast]
theorem sIx_le (n d : Nat) (hd : d ≤ n) (o : Option Int) : sIx n d o ≤ n := by
  cases o with
  | none => exact hd
  | some v =>
    show (if v < 0 then (v + (n : Int)).toNat else min v.toNat n) ≤ n
    by_cases hv : v < 0
    · rw [if_pos hv]; omega
    · rw [if_neg hv]; exact Nat.min_le_right _ _
theorem clip_eq (v : Int) (n d : Nat) : (if v < 0 then max (v + (n : Int)) 0 else min v (n : Int)) = ((sIx n d (some v) : Nat) : Int) := by
  show (if v < 0 then max (v + (n : Int)) 0 else min v (n : Int)) = (((if v < 0 then (v + (n : Int)).toNat else min v.toNat n) : Nat) : Int)
  by_cases hv : v < 0
  · simp only [if_pos hv]; omega
  · simp only [if_neg hv]; omega
theorem adjust_gen (lo hi : Option Int) (n : Nat) : Builtin.Slice.sliceAdjust lo hi 1 (n : Int) = (((sIx n 0 lo : Nat) : Int), ((sIx n n hi : Nat) : Int)) := by
  have h1 : ¬ ((1 : Int) < 0) := by omega
  unfold Builtin.Slice.sliceAdjust
  simp only [h1, if_false]
  refine Prod.ext ?_ ?_
  · cases lo with
    | none => rfl
    | some v => exact clip_eq v n 0
  · cases hi with
    | none => rfl
    | some v => exact clip_eq v n n
theorem places_gen (i j : Nat) : Builtin.Slice.slicePlaces (i : Int) (j : Int) 1 = j - i := by
  unfold Builtin.Slice.slicePlaces
  have h1 : (1 : Int) > 0 := by omega
  simp only [h1, if_true, Int.ediv_one]
  split <;> omega
theorem slicePart_ {v : Value} {o : Option Int} {Q : Option Int → Shared → Prop} (p : IsPart v o) (h : Q o s) : wpAny (model prog w) A (Builtin.Slice.slicePartIndex v) Q E s := by
  cases p with
  | none => exact slicePart_none h
  | int i t => exact slicePart_int h
theorem sliceApplied_gen {sl : Addr} {vl vu : Value} {lo hi : Option Int} {n : Nat} {Q : Int × Int × Nat → Shared → Prop} (hs : s.heap.IsSliceOf sl vl vu .none) (pl : IsPart vl lo) (pu : IsPart vu hi)
    (h : Q (((sIx n 0 lo : Nat) : Int), 1, sIx n n hi - sIx n 0 lo) s) : wpAny (model prog w) A (Builtin.Slice.sliceApplied (.ref sl) (pure (n : Int))) Q E s := by
  obtain ⟨os, hos, hcs, hds⟩ := id hs
  unfold Builtin.Slice.sliceApplied Builtin.Slice.sliceFields
  refine wpAny_bind (wpAny_bind (wpAny_field hos hds (x := vl) rfl (wpAny_bind (wpAny_field hos hds (x := vu) rfl (wpAny_bind (wpAny_field hos hds (x := .none) rfl (wpAny_pure ?_)))))))
  refine wpAny_bind (slicePart_none ?_)
  show wpAny _ _ (if ((1 : Int) == 0) = true then _ else _) _ _ s
  rw [if_neg (by decide)]
  refine wpAny_bind (slicePart_ pl (wpAny_bind (slicePart_ pu (wpAny_bind (wpAny_pure ?_)))))
  show wpAny _ _ (match Builtin.Slice.sliceAdjust lo hi 1 (n : Int) with | (lo, hi) => pure (lo, (1 : Int), Builtin.Slice.slicePlaces lo hi 1)) _ _ s
  rw [adjust_gen lo hi n]
  show wpAny _ _ (pure (((sIx n 0 lo : Nat) : Int), (1 : Int), Builtin.Slice.slicePlaces ((sIx n 0 lo : Nat) : Int) ((sIx n n hi : Nat) : Int) 1)) _ _ s
  rw [places_gen]
  exact wpAny_pure h
theorem pick_gen (xs : Array Value) (i k : Nat) : ((List.range k).filterMap fun (m : Nat) => xs[((i : Int) + (m : Int) * 1).toNat]?).toArray = ((xs.toList.drop i).take k).toArray := by
  have e : (fun (m : Nat) => xs[((i : Int) + (m : Int) * 1).toNat]?) = fun m => xs[i + m]? := by
    funext m
    have : ((i : Int) + (m : Int) * 1).toNat = i + m := by omega
    rw [this]
  rw [e]
  have := pick_run xs i k
  rw [List.filterMap_map] at this
  have e2 : ((fun x => xs[x]?) ∘ fun x => i + x) = fun m => xs[i + m]? := rfl
  rw [e2] at this
  rw [this]

theorem getItem_tuple_cut {t sl : Addr} {items : Array Value} {vl vu : Value} {lo hi : Option Int} {Q : Value → Shared → Prop} (ht : IsTup s.heap t items) (hs : s.heap.IsSliceOf sl vl vu .none) (pl : IsPart vl lo) (pu : IsPart vu hi)
    (hw : ¬ (sIx items.size 0 lo = 0 ∧ sIx items.size items.size hi = items.size))
    (h : Q (.ref s.heap.objs.size) { s with heap := s.heap.push { cls := .type "tuple", data := .seq ((items.toList.drop (sIx items.size 0 lo)).take (sIx items.size items.size hi - sIx items.size 0 lo)).toArray } })
    (hsz : items.size ≤ sizeLine) : wpAny (model prog w) A (getItem (.ref t) (.ref sl)) Q E s := by
  have htake : sizeOk (.seq ((items.toList.drop (sIx items.size 0 lo)).take (sIx items.size items.size hi - sIx items.size 0 lo)).toArray) := by
    show ((items.toList.drop (sIx items.size 0 lo)).take (sIx items.size items.size hi - sIx items.size 0 lo)).toArray.size ≤ sizeLine
    rw [List.size_toArray, List.length_take, List.length_drop, Array.length_toList]
    omega
  have hj : sIx items.size items.size hi ≤ items.size := sIx_le _ _ (Nat.le_refl _) hi
  obtain ⟨os, hos, hcs, hds⟩ := id hs
  have hTs : s.TypeIs (.ref sl) "slice" := ⟨os, hos, hcs⟩
  unfold getItem
  try with_reducible refine wpAny_holding ?_
  first | refine wpAny_bind (wpAny_pure ?_) | skip
  refine wpAny_bind (wpAny_sequenceKey ht.typeIs (by decide) ?_)
  refine wpAny_bind (wpAny_callSpecial?_slot (name := Str.ofString "__getitem__") ht.typeIs PyProof.Rows.slot_tuple_getitem
    (wpAny_call_entry PyProof.Rows.slot_tuple_getitem ht.typeIs entry_tuple_getitem ?_ (args_tuple_getitem _ _)))
  show wpAny _ _ (Builtin.Tuple.tupleItemsOf (.ref t) >>= _) _ _ s
  refine wpAny_bind (tupleItemsOf_ ht ?_)
  refine wpAny_bind (wpAny_typeOf hTs ?_)
  rw [if_pos (by decide)]
  refine wpAny_bind (sliceApplied_gen hs pl pu ?_)
  have hno : ¬ ((((sIx items.size 0 lo : Nat) : Int) == 0 && (1 : Int) == 1 && (sIx items.size items.size hi - sIx items.size 0 lo) == items.size) = true) := by
    intro q
    rw [Bool.and_eq_true, Bool.and_eq_true] at q
    have q1 : ((sIx items.size 0 lo : Nat) : Int) = 0 := eq_of_beq q.1.1
    have q2 : sIx items.size items.size hi - sIx items.size 0 lo = items.size := eq_of_beq q.2
    exact hw ⟨by omega, by omega⟩
  show wpAny _ _ (if (((sIx items.size 0 lo : Nat) : Int) == 0 && (1 : Int) == 1 && (sIx items.size items.size hi - sIx items.size 0 lo) == items.size) = true then _ else _) _ _ s
  rw [if_neg hno, pick_gen]
  first
    | exact wpAny_bind (m := Builtin.Tuple.tupleExact _) (wpAny_newObj_type (wpAny_pure ⟨_, rfl, wpAny_pure h⟩) htake)
    | exact wpAny_bind (m := Builtin.Tuple.tupleExact _) (wpAny_newObj_type (wpAny_bind (wpAny_pure (wpAny_pure ⟨_, rfl, wpAny_pure h⟩))) htake)
    | exact wpAny_bind (wpAny_bind (m := Builtin.Tuple.tupleExact _) (wpAny_newObj_type (wpAny_pure (wpAny_pure ⟨_, rfl, wpAny_pure h⟩)) htake))
    | exact wpAny_bind (wpAny_bind (m := Builtin.Tuple.tupleExact _) (wpAny_newObj_type (wpAny_pure ⟨_, rfl, wpAny_pure h⟩) htake))
end
end HT

namespace L2
open PySem PySem.Spec PyProof.Rows

/-! ### the parts of a slice -/
abbrev TO := St → Hp → (Option Int → Hp → Prop) → Prop
/-- a slice's part (left out, or an int) -/
def PO (X : Cx) (e : Option Expr) (t : TO) : Prop :=
  ∀ (pins : List (Addr × Obj)) (s : Shared) (σ : St) (H : Hp) (Q : Option Int → Hp → Prop), Inv X pins σ H s → t σ H Q →
    wpAny (model X.prog X.w) X.A (evalPart e X.env) (fun u s' => ∃ o H', Inv X pins σ H' s' ∧ IsPart u o ∧ Q o H') X.xe s
def tNoPart : TO := fun _ H Q => Q none H
def tPart (t : TE) : TO := fun σ H Q => t σ H fun x H1 => ∃ i, x = .int i ∧ Q (some i) H1

theorem intsAre_of {ns : List Int} : ∀ {us : List Value}, Vals (ns.map V.int) us → IntsAre us ns := by
  induction ns with
  | nil => intro us r; rw [List.map_nil] at r; cases r; exact .nil
  | cons n ns ih =>
    intro us r
    rw [List.map_cons] at r
    cases r with
    | cons r1 r2 =>
      obtain ⟨t, e⟩ := r1
      subst e
      exact .cons n t (ih r2)

section
variable {X : Cx} {e : Expr} {te : TE} {lo hi : Option Expr} {tl th : TO} {pos p2 : Pos}

theorem po_none : PO X none tNoPart := by
  intro pins s σ H Q I h
  rw [evalPart_none]
  exact wpAny_pure ⟨none, H, I, .none, h⟩
theorem po_some (h : PE X e te) : PO X (some e) (tPart te) := by
  intro pins s σ H Q I hw
  rw [evalPart_some]
  refine thn (h pins s σ H _ I hw) fun u s1 ⟨x, H1, I1, r1, q1⟩ => ?_
  obtain ⟨i, rfl, q⟩ := q1
  obtain ⟨t, rfl⟩ := r1
  exact ⟨some i, H1, I1, .int i t, q⟩

/-- what a slice of a value is, by values: the slice object stands at sl -/
def SlR (X : Cx) (r : V → Option Int → Option Int → Hp → VK → Prop) : Prop :=
  ∀ (pins : List (Addr × Obj)) (s : Shared) (σ : St) (H : Hp) (x : V) (v vl vu : Value) (lo hi : Option Int) (sl : Addr) (Q : VK), Inv X pins σ H s → RelV x v → s.heap.IsSliceOf sl vl vu .none → IsPart vl lo → IsPart vu hi → r x lo hi H Q →
    ∃ T id, typeLookup (.type T) "__getitem__" = pure (some (.builtin id)) ∧ s.TypeIs v T ∧ wpAny (model X.prog X.w) X.A (getItem v (.ref sl)) (EP X pins σ Q) X.xe s
theorem SlR.or {r r' : V → Option Int → Option Int → Hp → VK → Prop} (h : SlR X r) (h' : SlR X r') : SlR X (fun x lo hi H Q => r x lo hi H Q ∨ r' x lo hi H Q) := by
  intro pins s σ H x v vl vu lo hi sl Q I rx hs pl pu q
  rcases q with q | q
  · exact h pins s σ H x v vl vu lo hi sl Q I rx hs pl pu q
  · exact h' pins s σ H x v vl vu lo hi sl Q I rx hs pl pu q
def tSl (r : V → Option Int → Option Int → Hp → VK → Prop) (te : TE) (tl th : TO) : TE := fun σ H Q => te σ H fun x H1 => tl σ H1 fun l H2 => th σ H2 fun u H3 => r x l u H3 Q
/-- a[lo:hi], any a -/
theorem pe_slice {r : V → Option Int → Option Int → Hp → VK → Prop} (hr : SlR X r) (he : PE X e te) (hl : PO X lo tl) (hu : PO X hi th) : PE X (.Subscript e (.Slice lo hi none p2) pos) (tSl r te tl th) := by
  intro pins s σ H Q I h
  refine Subscript_ (thn (he pins s σ H _ I h) fun v s1 ⟨x, H1, I1, r1, q1⟩ => ?_)
  refine wpAny_Slice (thn (hl pins s1 σ H1 _ I1 q1) fun vl s2 ⟨l, H2, I2, pl, q2⟩ => thn (hu pins s2 σ H2 _ I2 q2) fun vu s3 ⟨u, H3, I3, pu, q3⟩ => ?_)
  rw [evalPart_none]
  refine wpAny_pure ?_
  have I4 : Inv X pins σ H3 { s3 with heap := s3.heap.push { cls := .type "slice", data := .fields #[vl, vu, .none] } } := I3.kept (t' := s3.toks) fun b ob q => Heap.get?_push_of_some _ q
  obtain ⟨T, id, hT, ht, hg⟩ := hr pins { s3 with heap := s3.heap.push { cls := .type "slice", data := .fields #[vl, vu, .none] } } σ H3 x v vl vu l u s3.heap.objs.size Q I4 r1 (Heap.IsSliceOf.new ..) pl pu q3
  show wpAny (model X.prog X.w) X.A (subscriptTail e (.Slice lo hi none p2) v (.ref s3.heap.objs.size)) (EP X pins σ Q) X.xe { s3 with heap := s3.heap.push { cls := .type "slice", data := .fields #[vl, vu, .none] } }
  exact tail_any (ops := [.ref s3.heap.objs.size, v]) ht hT hg (by with_unfolding_all rfl)

/-- the items of xs[lo:hi] -/
def cutV (xs : List V) (lo hi : Option Int) : List V := (xs.drop (HT.sIx xs.length 0 lo)).take (HT.sIx xs.length xs.length hi - HT.sIx xs.length 0 lo)
theorem cutV_length (xs : List V) (lo hi : Option Int) : (cutV xs lo hi).length ≤ xs.length := by
  unfold cutV
  rw [List.length_take, List.length_drop]
  omega
/-- t[lo:hi], not the whole of it (the whole would be t itself) -/
def rSlT (K : PySem.W.Frag) : V → Option Int → Option Int → Hp → VK → Prop := fun x lo hi H Q => ∃ a xs, x = .ref a ∧ SqT K H a xs ∧
  ¬ (HT.sIx xs.length 0 lo = 0 ∧ HT.sIx xs.length xs.length hi = xs.length) ∧ ∀ p, H p = none → Q (.ref p) (upd H p (.tup (cutV xs lo hi)))
theorem sl_tup : SlR X (rSlT X.K) := by
  intro pins s σ H x v vl vu lo hi sl Q I rx hs pl pu h
  obtain ⟨a, xs, rfl, hx, hw, q⟩ := h
  cases rx
  obtain ⟨its, r, ht, hz⟩ := I.tuple hx
  have hlen : its.toArray.size = xs.length := by rw [List.size_toArray]; exact r.length.symm
  refine ⟨"tuple", _, PyProof.Rows.slot_tuple_getitem.lookup, ht.typeIs, ?_⟩
  refine HT.getItem_tuple_cut ht hs pl pu (by rw [hlen]; exact hw) ?_ (by rw [hlen]; exact hz)
  rw [hlen]
  refine ⟨.ref s.heap.objs.size, _, I.laid (t' := s.toks) (o := .tup (cutV xs lo hi)) (fun b ob q => Heap.get?_push_of_some _ q) (Nat.le_refl _) ?_, rfl, q _ (I.hok.fresh (Nat.le_refl _))⟩
  exact ⟨Nat.le_trans (cutV_length xs lo hi) hz, _, (r.drop (HT.sIx xs.length 0 lo)).take (HT.sIx xs.length xs.length hi - HT.sIx xs.length 0 lo), IsTup.new _ _⟩

/-! ### t < u, t + u -/
def rLtT (K : PySem.W.Frag) : R2 := fun x y H Q => ∃ a b ns ms, x = .ref a ∧ y = .ref b ∧ SqT K H a (ns.map V.int) ∧ SqT K H b (ms.map V.int) ∧ Q (.bl (HT.lexLt ns ms)) H
theorem op_ltT (hu : X.A.units < cLine) : OpR X (compareOp .Lt) (rLtT X.K) := by
  intro pins s σ H x y v u Q I rx ry h
  obtain ⟨a, b, ns, ms, rfl, rfl, ha, hb, q⟩ := h
  cases rx
  cases ry
  obtain ⟨its, r1, p1, _⟩ := I.tuple ha
  obtain ⟨its2, r2, p2, _⟩ := I.tuple hb
  have i1 : IntsAre its.toArray.toList ns := intsAre_of r1
  have i2 : IntsAre its2.toArray.toList ms := intsAre_of r2
  exact HT.lt_tupInts p1 p2 i1 i2 hu ⟨.bl (HT.lexLt ns ms), H, I, rfl, q⟩
/-- t + u, t not empty: u empty gives t itself -/
def rCatT (K : PySem.W.Frag) : R2 := fun x y H Q => ∃ a b xs ys, x = .ref a ∧ y = .ref b ∧ SqT K H a xs ∧ SqT K H b ys ∧ xs ≠ [] ∧ xs.length + ys.length ≤ sizeLine ∧
  (ys = [] → Q (.ref a) H) ∧ (ys ≠ [] → ∀ p, H p = none → Q (.ref p) (upd H p (.tup (xs ++ ys))))
theorem Vals.nil_iff {xs : List V} {us : List Value} (r : Vals xs us) : us = [] ↔ xs = [] := by
  cases r with
  | nil => simp
  | cons _ _ => simp
theorem op_catT : OpR X (binaryOp .Add) (rCatT X.K) := by
  intro pins s σ H x y v u Q I rx ry h
  obtain ⟨a, b, xs, ys, rfl, rfl, ha, hb, hx, hz, q1, q2⟩ := h
  cases rx
  cases ry
  obtain ⟨its, r1, p1, _⟩ := I.tuple ha
  obtain ⟨its2, r2, p2, _⟩ := I.tuple hb
  refine HT.cat_tup p1 p2 (fun z => hx (r1.nil_iff.mp z)) (fun z => ⟨.ref a, H, I, rfl, q1 (r2.nil_iff.mp z)⟩) (fun z => ?_) (by rw [← r1.length, ← r2.length]; exact hz)
  refine ⟨.ref s.heap.objs.size, _, I.laid (t' := s.toks) (o := .tup (xs ++ ys)) (fun b ob q => Heap.get?_push_of_some _ q) (Nat.le_refl _) ?_, rfl, q2 (fun w => z (r2.nil_iff.mpr w)) _ (I.hok.fresh (Nat.le_refl _))⟩
  exact ⟨by rw [List.length_append]; exact hz, _, r1.append r2, IsTup.new _ _⟩
/-- tuple(t) -/
theorem call_tupleT : CallR X (.type "tuple") (fun xs H Q => ∃ a ys, xs = [.ref a] ∧ SqT X.K H a ys ∧ Q (.ref a) H) := by
  intro pins s σ H xs us Q I r h
  obtain ⟨a, ys, rfl, ha, q⟩ := h
  obtain ⟨u, rfl, ru⟩ := vals1 r
  cases ru
  obtain ⟨its, _, p1, _⟩ := I.tuple ha
  exact call_tuple_same (items := its.toArray) p1 ⟨.ref a, H, I, rfl, q⟩
end
end L2

namespace L2
open PySem PySem.Spec PyProof.Rows

/-! ### places -/
/-- the place that an index of any sign means -/
def ixN (n : Nat) (i : Int) : Option Nat := if 0 ≤ i then (if i < n then some i.toNat else none) else if -(n : Int) ≤ i then some (i + n).toNat else none
def atI {α : Type} (xs : List α) (i : Int) : Option α := (ixN xs.length i).bind fun j => xs[j]?
theorem ixN_seq {n : Nat} {i : Int} {j : Nat} (h : ixN n i = some j) : seqIndex? i n = some j ∧ j < n ∧ -(n : Int) ≤ i ∧ i < n := by
  unfold ixN at h
  by_cases h0 : 0 ≤ i
  · rw [if_pos h0] at h
    by_cases h1 : i < n
    · rw [if_pos h1] at h
      have e : i.toNat = j := Option.some.inj h
      exact ⟨by rw [seqIndex_of h0 h1, e], by omega, by omega, h1⟩
    · rw [if_neg h1] at h; cases h
  · rw [if_neg h0] at h
    by_cases h1 : -(n : Int) ≤ i
    · rw [if_pos h1] at h
      have e : (i + n).toNat = j := Option.some.inj h
      exact ⟨by rw [seqIndex_neg (by omega) h1, e], by omega, h1, by omega⟩
    · rw [if_neg h1] at h; cases h
theorem atI_get {α : Type} {xs : List α} {i : Int} {v : α} (h : atI xs i = some v) : ∃ j, seqIndex? i xs.length = some j ∧ xs[j]? = some v ∧ j < xs.length ∧ -(xs.length : Int) ≤ i ∧ i < xs.length := by
  unfold atI at h
  cases e : ixN xs.length i with
  | none => rw [e] at h; cases h
  | some j =>
    rw [e] at h
    obtain ⟨h1, h2, h3, h4⟩ := ixN_seq e
    exact ⟨j, h1, h, h2, h3, h4⟩
theorem atI_nat {α : Type} {xs : List α} {j : Nat} {v : α} (h : xs[j]? = some v) : atI xs (j : Int) = some v := by
  have hj : j < xs.length := (List.getElem?_eq_some_iff.mp h).1
  have e : ixN xs.length (j : Int) = some j := by
    unfold ixN
    rw [if_pos (by omega), if_pos (by omega)]; simp
  unfold atI; rw [e]; exact h
theorem atI_last {α : Type} (xs : List α) (v : α) : atI (xs ++ [v]) (-1) = some v := by
  have hl : (xs ++ [v]).length = xs.length + 1 := by simp
  have e : ixN (xs ++ [v]).length (-1) = some xs.length := by
    unfold ixN
    rw [hl, if_neg (by decide), if_pos (by omega)]
    congr 1
    omega
  unfold atI
  rw [e]
  show (xs ++ [v])[xs.length]? = some v
  simp

/-! ### what may be subscripted -/
/-- what stands as an index of a plain subscript -/
def PlainIx (b : Expr) : Prop := ∀ o i, subscripted b false o i = operate [o, i] (getItem o i)
/-- a subscript by values -/
def IxR (X : Cx) (r : R2) : Prop :=
  ∀ (value slice : Expr) (pins : List (Addr × Obj)) (s : Shared) (σ : St) (H : Hp) (x y : V) (v u : Value) (Q : VK), Inv X pins σ H s → RelV x v → RelV y u → r x y H Q →
    subscripted slice false v u = operate [v, u] (getItem v u) → wpAny (model X.prog X.w) X.A (subscriptTail value slice v u) (EP X pins σ Q) X.xe s
/-- a call of a builtin's method by values: the receiver, the arguments -/
def MtR (X : Cx) (id : String) (r : V → List V → Hp → VK → Prop) : Prop :=
  ∀ (pins : List (Addr × Obj)) (s : Shared) (σ : St) (H : Hp) (x : V) (xs : List V) (v : Value) (us : List Value) (Q : VK), Inv X pins σ H s → RelV x v → Vals xs us → r x xs H Q →
    wpAny (model X.prog X.w) X.A (call (.builtin id) (v :: us)) (EP X pins σ Q) X.xe s
section
variable {X : Cx} {a b : Expr} {ta tb : TE} {pos : Pos}
theorem IxR.or {r r' : R2} (h : IxR X r) (h' : IxR X r') : IxR X (fun x y H Q => r x y H Q ∨ r' x y H Q) := by
  intro value slice pins s σ H x y v u Q I rx ry q hs
  rcases q with q | q
  · exact h value slice pins s σ H x y v u Q I rx ry q hs
  · exact h' value slice pins s σ H x y v u Q I rx ry q hs
theorem MtR.or {id : String} {r r' : V → List V → Hp → VK → Prop} (h : MtR X id r) (h' : MtR X id r') : MtR X id (fun x xs H Q => r x xs H Q ∨ r' x xs H Q) := by
  intro pins s σ H x xs v us Q I rx rs q
  rcases q with q | q
  · exact h pins s σ H x xs v us Q I rx rs q
  · exact h' pins s σ H x xs v us Q I rx rs q
/-- a[b] -/
theorem pe_ix {r : R2} (hr : IxR X r) (ha : PE X a ta) (hb : PE X b tb) (hs : PlainIx b) : PE X (.Subscript a b pos) (tOp r ta tb) := by
  intro pins s σ H Q I h
  exact Subscript_ (binT ha hb I h fun v u s2 x y H2 I2 rx ry q => hr a b pins s2 σ H2 x y v u Q I2 rx ry q (hs _ _))

def rIxL (K : PySem.W.Frag) : R2 := fun x y H Q => ∃ p xs i v, x = .ref p ∧ y = .int i ∧ SqL K H p xs ∧ atI xs i = some v ∧ Q v H
def rIxT (K : PySem.W.Frag) : R2 := fun x y H Q => ∃ p xs i v, x = .ref p ∧ y = .int i ∧ SqT K H p xs ∧ atI xs i = some v ∧ Q v H
def rIxS : R2 := fun x y H Q => ∃ z i c, x = .str z ∧ y = .int i ∧ z.length ≤ sizeLine ∧ atI z.cps.toList i = some c ∧ Q (.str ⟨#[c]⟩) H
theorem ix_list : IxR X (rIxL X.K) := by
  intro value slice pins s σ H x y v u Q I rx ry h hs
  obtain ⟨p, xs, i, z, rfl, rfl, hq, he, q⟩ := h
  cases rx
  obtain ⟨t, rfl⟩ := ry
  obtain ⟨its, r, pl, hz⟩ := I.list hq
  obtain ⟨j, h1, h2, h3, h4, h5⟩ := atI_get he
  obtain ⟨w, ew, rw'⟩ := r.get h2
  have hl := r.length
  have hn := line63
  have fin : EP X pins σ Q w s := ⟨z, H, I, rw', q⟩
  by_cases h0 : 0 ≤ i
  · have hj : i.toNat = j := by
      rw [seqIndex_of h0 h5] at h1
      exact Option.some.inj h1
    exact item_listR pl.isList h0 (by omega) (by rw [hj]; simpa using ew) fin hs
  · have hj : (i + (its.toArray.size : Int)).toNat = j := by
      rw [seqIndex_neg (by omega) h4] at h1
      rw [List.size_toArray, ← hl]
      exact Option.some.inj h1
    exact subscriptTail_builtinR (x := w) pl.isList.typeIs slot_list_getitem.lookup
      (wpAny_getItem_list_neg (Q := fun r s' => r = w ∧ EP X pins σ Q r s') pl.isList (by omega) (by rw [List.size_toArray] <;> omega) (by omega) (by rw [hj]; simpa using ew) ⟨rfl, fin⟩) hs
theorem ix_tup : IxR X (rIxT X.K) := by
  intro value slice pins s σ H x y v u Q I rx ry h hs
  obtain ⟨p, xs, i, z, rfl, rfl, hq, he, q⟩ := h
  cases rx
  obtain ⟨t, rfl⟩ := ry
  obtain ⟨its, r, pl, hz⟩ := I.tuple hq
  obtain ⟨j, h1, h2, h3, h4, h5⟩ := atI_get he
  obtain ⟨w, ew, rw'⟩ := r.get h2
  have hl := r.length
  have hn := line63
  have fin : EP X pins σ Q w s := ⟨z, H, I, rw', q⟩
  exact subscriptTail_builtinR (x := w) pl.typeIs slot_tuple_getitem.lookup
    (getItem_tuple (j := j) (Q := fun r s' => r = w ∧ EP X pins σ Q r s') pl (by omega) (by omega) (by rw [List.size_toArray, ← hl]; exact h1) (by simpa using ew) ⟨rfl, fin⟩) hs
theorem ix_str : IxR X rIxS := by
  intro value slice pins s σ H x y v u Q I rx ry h hs
  obtain ⟨z, i, c, rfl, rfl, hz, he, q⟩ := h
  obtain ⟨t, rfl⟩ := rx
  obtain ⟨t', rfl⟩ := ry
  obtain ⟨j, h1, h2, h3, h4, h5⟩ := atI_get he
  have hl : z.cps.toList.length = z.length := by simp [Str.length]
  rw [hl] at h1 h4 h5
  have hn := line63
  exact tail_any (typeIs_str s z t) slot_str_getitem.lookup (getItem_str (c := c) (by
    have e1 : decide (i < -(2 ^ 63 : Int)) = false := decide_eq_false (by omega)
    have e2 : decide (i ≥ 2 ^ 63) = false := decide_eq_false (by omega)
    rw [e1, e2, Bool.or_false]) (by rw [h1]; simpa using h2) ⟨.str ⟨#[c]⟩, H, I.tok _, ⟨_, rfl⟩, q⟩) hs
/-- list, tuple or str -/
def rIx (K : PySem.W.Frag) : R2 := fun x y H Q => rIxL K x y H Q ∨ rIxT K x y H Q ∨ rIxS x y H Q
theorem ix_seq : IxR X (rIx X.K) := ix_list.or (ix_tup.or ix_str)

/-! ### xs[i] = v, any sign -/
/-- the list's object behind a store -/
theorem mapSeq_set (its : List Value) (n j : Nat) (u : Value) : Obj.mapSeq (·.setIfInBounds j u) { cls := .type "list", data := .seq its.toArray n } = { cls := .type "list", data := .seq (its.set j u).toArray n } := by
  simp [Obj.mapSeq]
theorem Inv.lst {pins : List (Addr × Obj)} {σ : St} {H : Hp} {s : Shared} {p : Addr} {xs : List V} (I : Inv X pins σ H s) (h : H p = some (.lst xs)) :
    ∃ (its : List Value) (n : Nat), Vals xs its ∧ s.heap.get? p = some { cls := .type "list", data := .seq its.toArray n } ∧ xs.length ≤ sizeLine := by
  obtain ⟨z, its, n, r, e⟩ := I.hok p _ h
  exact ⟨its, n, r, e, z⟩
/-- the list at p is written by an update of its object -/
theorem Inv.lstUpd {pins : List (Addr × Obj)} {σ : St} {H : Hp} {s : Shared} {p : Addr} {xs ys : List V} {its its' : List Value} {n n' : Nat} {f : Obj → Obj} (I : Inv X pins σ H s) (h : H p = some (.lst xs))
    (ho : s.heap.get? p = some { cls := .type "list", data := .seq its.toArray n }) (hf : f { cls := .type "list", data := .seq its.toArray n } = { cls := .type "list", data := .seq its'.toArray n' }) (r : Vals ys its') (hz : ys.length ≤ sizeLine) (t : Nat) :
    Inv X pins σ (upd H p (.lst ys)) { s with heap := s.heap.update p f, toks := t } := by
  have e : (s.heap.update p f).get? p = some { cls := .type "list", data := .seq its'.toArray n' } := by
    rw [Heap.get?_update_self f ho (by rw [hf] <;> rfl), hf]
  refine I.write (x := p) (e := p) (by rw [h]; trivial) (.inl rfl) (fun b u hb q => (Heap.get?_update_other _ _ (Ne.symm hb)).trans q) ⟨_, e⟩ ?_
  exact ⟨hz, its', n', r, e⟩
def rSetL : V → V → V → Hp → (Hp → Prop) → Prop := fun o i v H Q => ∃ p xs k j, o = .ref p ∧ i = .int k ∧ H p = some (.lst xs) ∧ ixN xs.length k = some j ∧ Q (upd H p (.lst (xs.set j v)))
theorem set_list : PSet X rSetL := by
  intro pins s σ H o i v ov iv u Q I ro ri rv h
  obtain ⟨p, xs, k, j, rfl, rfl, hp, hj, q⟩ := h
  cases ro
  obtain ⟨t, rfl⟩ := ri
  obtain ⟨its, n, r, ho, hz⟩ := I.lst hp
  obtain ⟨h1, h2, h3, h4⟩ := ixN_seq hj
  have hl := r.length
  have hn := line63
  have I' : Inv X pins σ (upd H p (.lst (xs.set j v))) { s with heap := s.heap.update p (Obj.mapSeq (·.setIfInBounds j u)) } :=
    I.lstUpd hp ho (mapSeq_set its n j u) (r.set rv j) (by rw [List.length_set]; exact hz) s.toks
  by_cases h0 : 0 ≤ k
  · have hk : k.toNat = j := by
      rw [seqIndex_of h0 h4] at h1
      exact Option.some.inj h1
    exact PySem.W.ki_setAt ho h0 (by omega) (by rw [List.size_toArray, ← hl]; exact h4) (by rw [hk]; exact ⟨_, I', q⟩)
  · have hk : (k + (its.toArray.size : Int)).toNat = j := by
      rw [seqIndex_neg (by omega) h3] at h1
      rw [List.size_toArray, ← hl]
      exact Option.some.inj h1
    exact PySem.W.ki_setBack ho (by omega) (by rw [List.size_toArray, ← hl]; exact h3) (by omega) (by rw [hk]; exact ⟨_, I', q⟩)

/-! ### slices -/
theorem slice_bounds (lo hi : Option Int) (n : Nat) : (sliceBounds lo hi none n).1 = ((HT.sIx n 0 lo : Nat) : Int) ∧ (sliceBounds lo hi none n).2.1 = ((HT.sIx n n hi : Nat) : Int) ∧ (sliceBounds lo hi none n).2.2 = 1 := by
  refine ⟨?_, ?_, rfl⟩
  · cases lo with
    | none => simp [sliceBounds, HT.sIx]
    | some i =>
      simp only [sliceBounds, HT.sIx, Option.getD_none, show (1 : Int) > 0 by decide, if_true]
      by_cases h : i < 0
      · simp only [h, if_true] <;> omega
      · simp only [h, if_false] <;> omega
  · cases hi with
    | none => simp [sliceBounds, HT.sIx]
    | some i =>
      simp only [sliceBounds, HT.sIx, Option.getD_none, show (1 : Int) > 0 by decide, if_true]
      by_cases h : i < 0
      · simp only [h, if_true] <;> omega
      · simp only [h, if_false] <;> omega
theorem slicePick_cut (its : List Value) (lo hi : Option Int) : slicePick its.toArray lo hi none = ((its.drop (HT.sIx its.length 0 lo)).take (HT.sIx its.length its.length hi - HT.sIx its.length 0 lo)).toArray := by
  obtain ⟨h1, h2, h3⟩ := slice_bounds lo hi its.toArray.size
  unfold slicePick
  rw [h1, h2, h3]
  simp only [sliceRange_one, pick_run, List.size_toArray] <;> rfl
/-- xs[lo:hi] of a list: a new list -/
def rSlL (K : PySem.W.Frag) : V → Option Int → Option Int → Hp → VK → Prop := fun x lo hi H Q => ∃ a xs, x = .ref a ∧ SqL K H a xs ∧ ∀ p, H p = none → Q (.ref p) (upd H p (.lst (cutV xs lo hi)))
theorem sl_list : SlR X (rSlL X.K) := by
  intro pins s σ H x v vl vu lo hi sl Q I rx hs pl pu h
  obtain ⟨a, xs, rfl, hx, q⟩ := h
  cases rx
  obtain ⟨its, r, ht, hz⟩ := I.list hx
  have hlen := r.length
  refine ⟨"list", _, slot_list_getitem.lookup, ht.isList.typeIs, ?_⟩
  refine wpAny_getItem_list_slice ht.isList hs pl pu .none (by simp) ?_ (by rw [List.size_toArray] <;> omega)
  rw [slicePick_cut, ← hlen]
  refine ⟨.ref s.heap.objs.size, _, I.laid (t' := s.toks) (o := .lst (cutV xs lo hi)) (fun b ob q => Heap.get?_push_of_some _ q) (Nat.le_refl _) ?_, rfl, q _ (I.hok.fresh (Nat.le_refl _))⟩
  exact ⟨Nat.le_trans (cutV_length xs lo hi) hz, _, 0, (r.drop (HT.sIx xs.length 0 lo)).take (HT.sIx xs.length xs.length hi - HT.sIx xs.length 0 lo), Heap.get?_push_size _ rfl⟩

/-! ### in, not in: flat items -/
def flatV : V → Bool
  | .non => true
  | .bl _ => true
  | .int _ => true
  | .str _ => true
  | _ => false
/-- == of flat values -/
def eqV : V → V → Bool
  | .non, .non => true
  | .bl a, .bl b => a == b
  | .bl a, .int b => (if a then 1 else 0) == b
  | .int a, .bl b => a == (if b then 1 else 0)
  | .int a, .int b => a == b
  | .str a, .str b => a == b
  | _, _ => false
theorem eqAt_V {A : Around} {s : Shared} {y x : V} {u v : Value} (ry : RelV y u) (rx : RelV x v) (fy : flatV y = true) (fx : flatV x = true) : SeqAt.EqAt A s u v (eqV y x) := by
  cases y with
  | non =>
    cases ry
    cases x with
    | non => cases rx; exact SeqAt.EqAt.same _
    | bl b => cases rx; exact SeqAt.EqAt.none_bool b
    | int b => obtain ⟨t, rfl⟩ := rx; exact SeqAt.EqAt.none_int b t
    | str b => obtain ⟨t, rfl⟩ := rx; exact SeqAt.EqAt.none_str b t
    | _ => exact absurd (show false = true from fx) Bool.false_ne_true
  | bl a =>
    cases ry
    cases x with
    | non => cases rx; exact SeqAt.EqAt.bool_none a
    | bl b => cases rx; exact SeqAt.EqAt.bool_bool a b
    | int b => obtain ⟨t, rfl⟩ := rx; exact SeqAt.EqAt.bool_int a b t
    | str b => obtain ⟨t, rfl⟩ := rx; exact SeqAt.EqAt.bool_str a b t
    | _ => exact absurd (show false = true from fx) Bool.false_ne_true
  | int a =>
    obtain ⟨t', rfl⟩ := ry
    cases x with
    | non => cases rx; exact SeqAt.EqAt.int_none a t'
    | bl b => cases rx; exact SeqAt.EqAt.int_bool a t' b
    | int b => obtain ⟨t, rfl⟩ := rx; exact SeqAt.EqAt.int_int a t' b t
    | str b => obtain ⟨t, rfl⟩ := rx; exact SeqAt.EqAt.int_str a t' b t
    | _ => exact absurd (show false = true from fx) Bool.false_ne_true
  | str a =>
    obtain ⟨t', rfl⟩ := ry
    cases x with
    | non => cases rx; exact SeqAt.EqAt.str_none a t'
    | bl b => cases rx; exact SeqAt.EqAt.str_bool a t' b
    | int b => obtain ⟨t, rfl⟩ := rx; exact SeqAt.EqAt.str_int a t' b t
    | str b => obtain ⟨t, rfl⟩ := rx; exact SeqAt.EqAt.str_str a t' b t
    | _ => exact absurd (show false = true from fx) Bool.false_ne_true
  | _ => exact absurd (show false = true from fy) Bool.false_ne_true
/-- the items' answers, read off the values (a value's own answer does not lean on its token) -/
def eqU (x : V) (u : Value) : Bool := match u with
  | .none => eqV .non x
  | .bool b => eqV (.bl b) x
  | .int i _ => eqV (.int i) x
  | .str z _ => eqV (.str z) x
  | _ => false
theorem eqU_of {x y : V} {u : Value} (r : RelV y u) (f : flatV y = true) : eqU x u = eqV y x := by
  cases y with
  | non => cases r; rfl
  | bl b => cases r; rfl
  | int i => obtain ⟨t, rfl⟩ := r; rfl
  | str z => obtain ⟨t, rfl⟩ := r; rfl
  | _ => exact absurd (show false = true from f) Bool.false_ne_true
theorem any_eqU {x : V} : ∀ {xs : List V} {us : List Value}, Vals xs us → xs.all flatV = true → us.any (eqU x) = xs.any fun y => eqV y x
  | _, _, .nil, _ => rfl
  | y :: xs, u :: us, .cons r t, f => by
    rw [List.all_cons, Bool.and_eq_true] at f
    rw [List.any_cons, List.any_cons, eqU_of r f.1, any_eqU t f.2]
theorem mem_eqAt {A : Around} {s : Shared} {x : V} {v : Value} (rx : RelV x v) (fx : flatV x = true) : ∀ {xs : List V} {us : List Value}, Vals xs us → xs.all flatV = true → ∀ u ∈ us, SeqAt.EqAt A s u v (eqU x u)
  | _, _, .nil, _ => fun u hu => by cases hu
  | y :: xs, u :: us, .cons r t, f => fun u' hu => by
    rw [List.all_cons, Bool.and_eq_true] at f
    rcases List.mem_cons.mp hu with rfl | hu
    · rw [eqU_of r f.1]; exact eqAt_V r rx f.1 fx
    · exact mem_eqAt rx fx t f.2 u' hu
def inV (x : V) (xs : List V) : Bool := xs.any fun y => eqV y x
/-- x in a list or tuple of flat items -/
def rIn (K : PySem.W.Frag) (neg : Bool) : R2 := fun x y H Q => ∃ p xs, y = .ref p ∧ (SqL K H p xs ∨ SqT K H p xs) ∧ flatV x = true ∧ xs.all flatV = true ∧ Q (.bl (if neg then !inV x xs else inV x xs)) H
theorem op_in_seq : OpR X (compareOp .In) (rIn X.K false) := by
  intro pins s σ H x y v u Q I rx ry h
  obtain ⟨p, xs, rfl, hq, fx, fs, q⟩ := h
  cases ry
  rcases hq with hq | hq
  · obtain ⟨its, r, pl, hz⟩ := I.list hq
    refine SeqAt.in_listAt (eqU x) pl.isList (fun w hw => mem_eqAt rx fx r fs w (by simpa using hw)) ⟨.bl _, H, I, rfl, ?_⟩
    rw [show its.toArray.any (eqU x) = its.any (eqU x) by simp, any_eqU r fs]
    exact q
  · obtain ⟨its, r, pl, hz⟩ := I.tuple hq
    refine SeqAt.in_tupleAt (eqU x) pl (fun w hw => mem_eqAt rx fx r fs w (by simpa using hw)) ⟨.bl _, H, I, rfl, ?_⟩
    rw [show its.toArray.any (eqU x) = its.any (eqU x) by simp, any_eqU r fs]
    exact q
theorem op_notIn_seq : OpR X (compareOp .NotIn) (rIn X.K true) := by
  intro pins s σ H x y v u Q I rx ry h
  obtain ⟨p, xs, rfl, hq, fx, fs, q⟩ := h
  cases ry
  rcases hq with hq | hq
  · obtain ⟨its, r, pl, hz⟩ := I.list hq
    refine SeqAt.notIn_listAt (eqU x) pl.isList (fun w hw => mem_eqAt rx fx r fs w (by simpa using hw)) ⟨.bl _, H, I, rfl, ?_⟩
    rw [show its.toArray.any (eqU x) = its.any (eqU x) by simp, any_eqU r fs]
    exact q
  · obtain ⟨its, r, pl, hz⟩ := I.tuple hq
    refine SeqAt.notIn_tupleAt (eqU x) pl (fun w hw => mem_eqAt rx fx r fs w (by simpa using hw)) ⟨.bl _, H, I, rfl, ?_⟩
    rw [show its.toArray.any (eqU x) = its.any (eqU x) by simp, any_eqU r fs]
    exact q
theorem op_notIn_str : OpR X (compareOp .NotIn) (fun x y H Q => ∃ i j, x = .str i ∧ y = .str j ∧ Q (.bl (!(!(Builtin.Str.occurrences j i 0 j.length 1).isEmpty))) H) := by
  intro pins s σ H x y v u Q I rx ry h
  obtain ⟨i, j, rfl, rfl, q⟩ := h
  obtain ⟨t, rfl⟩ := rx
  obtain ⟨t', rfl⟩ := ry
  exact notIn_str ⟨.bl _, H, I, rfl, q⟩

/-! ### len, list(x), tuple(x) of any list or tuple that is read -/
theorem call_len_seq : CallR X (.builtin "len") (fun xs H Q => ∃ p ys, xs = [.ref p] ∧ (SqL X.K H p ys ∨ SqT X.K H p ys) ∧ Q (.int ys.length) H) := by
  intro pins s σ H xs us Q I r h
  obtain ⟨p, ys, rfl, hq, q⟩ := h
  obtain ⟨u, rfl, rx⟩ := vals1 r
  cases rx
  have hn := line63
  rcases hq with hq | hq
  · obtain ⟨its, r', pl, hz⟩ := I.list hq
    have hlen := r'.length
    exact Calls.call_len_list pl.isList (by simp only [List.size_toArray] <;> omega) ⟨.int ys.length, H, I.tok _, ⟨s.toks + 1, by rw [List.size_toArray, hlen]⟩, q⟩
  · obtain ⟨its, r', pl, hz⟩ := I.tuple hq
    have hlen := r'.length
    exact len_tuple pl (by simp only [List.size_toArray] <;> omega) ⟨.int ys.length, H, I.tok _, ⟨s.toks + 1, by rw [List.size_toArray, hlen]⟩, q⟩
theorem call_len_str : CallR X (.builtin "len") (fun xs H Q => ∃ z, xs = [.str z] ∧ z.length ≤ sizeLine ∧ Q (.int z.length) H) := by
  intro pins s σ H xs us Q I r h
  obtain ⟨z, rfl, hz, q⟩ := h
  obtain ⟨u, rfl, t, rfl⟩ := vals1 r
  have hn := line63
  exact len_str (by omega) ⟨.int z.length, H, I.tok _, ⟨_, rfl⟩, q⟩
theorem CallR.or {f : Value} {r r' : List V → Hp → VK → Prop} (h : CallR X f r) (h' : CallR X f r') : CallR X f (fun xs H Q => r xs H Q ∨ r' xs H Q) := by
  intro pins s σ H xs us Q I rs q
  rcases q with q | q
  · exact h pins s σ H xs us Q I rs q
  · exact h' pins s σ H xs us Q I rs q
theorem call_list_of : CallR X (.type "list") (fun xs H Q => ∃ p ys, xs = [.ref p] ∧ (SqL X.K H p ys ∨ SqT X.K H p ys) ∧ ∀ l, H l = none → Q (.ref l) (upd H l (.lst ys))) := by
  intro pins s σ H xs us Q I r h
  obtain ⟨p, ys, rfl, hq, q⟩ := h
  obtain ⟨u, rfl, rx⟩ := vals1 r
  cases rx
  have fin : ∀ (its : List Value), Vals ys its → ys.length ≤ sizeLine → ∀ (h' : Heap) (c' : Nat), (∀ b o', s.heap.get? b = some o' → h'.get? b = some o') →
      h'.get? s.heap.objs.size = some { cls := .type "list", dict := none, data := .seq its.toArray c', slots := #[] } → EP X pins σ Q (.ref s.heap.objs.size) { s with heap := h' } := fun its r' hz h' c' kp e =>
    ⟨.ref s.heap.objs.size, _, I.laid (t' := s.toks) kp (Nat.le_refl _) (show ObjOk X.prog X.w _ h' _ (.lst ys) from ⟨hz, its, c', r', e⟩), rfl, q _ (I.hok.fresh (Nat.le_refl _))⟩
  rcases hq with hq | hq
  · obtain ⟨its, r', pl, hz⟩ := I.list hq
    have hlen := r'.length
    obtain ⟨o, ho, hc, n, hd⟩ := pl.isList
    exact call_list_seq p (.inl rfl) ho hc hd (fun h' c' kp e => fin its r' hz h' c' kp e) (by simp only [List.size_toArray] <;> omega)
  · obtain ⟨its, r', pl, hz⟩ := I.tuple hq
    have hlen := r'.length
    obtain ⟨o, ho, hc, n, hd⟩ := pl
    exact call_list_seq p (.inr rfl) ho hc hd (fun h' c' kp e => fin its r' hz h' c' kp e) (by simp only [List.size_toArray] <;> omega)
theorem call_tuple_of : CallR X (.type "tuple") (fun xs H Q => ∃ p ys, xs = [.ref p] ∧ ((SqL X.K H p ys ∧ ∀ l, H l = none → Q (.ref l) (upd H l (.tup ys))) ∨ (SqT X.K H p ys ∧ Q (.ref p) H))) := by
  intro pins s σ H xs us Q I r h
  obtain ⟨p, ys, rfl, h⟩ := h
  obtain ⟨u, rfl, rx⟩ := vals1 r
  cases rx
  rcases h with ⟨hq, q⟩ | ⟨hq, q⟩
  · obtain ⟨its, r', pl, hz⟩ := I.list hq
    have hlen := r'.length
    refine call_tuple_list pl.isList (fun h' kp => ?_) (by simp only [List.size_toArray] <;> omega)
    have I1 : Inv X pins σ H { s with heap := h' } := I.kept (t' := s.toks) kp
    have I2 : Inv X pins σ (upd H h'.objs.size (.tup ys)) { s with heap := h'.push { cls := .type "tuple", data := .seq its.toArray } } :=
      I1.laid (t' := s.toks) (fun b o e => Heap.get?_push_of_some _ e) (Nat.le_refl _) (show ObjOk X.prog X.w _ _ _ (.tup ys) from ⟨hz, its, r', IsTup.new _ _⟩)
    exact ⟨.ref h'.objs.size, _, I2, rfl, q _ (I1.hok.fresh (Nat.le_refl _))⟩
  · obtain ⟨its, r', pl, hz⟩ := I.tuple hq
    exact call_tuple_same pl ⟨.ref p, H, I, rfl, q⟩

/-! ### the call of a builtin's method: o.m(..) -/
/-- the value is of that builtin type -/
def tyV (K : PySem.W.Frag) (T : String) (x : V) (H : Hp) : Prop := match x with
  | .str _ => T = "str"
  | .int _ => T = "int"
  | .ref p => (T = "list" ∧ ∃ xs, SqL K H p xs) ∨ (T = "tuple" ∧ ∃ o, K.lookup p = some o ∧ o.cls = .type "tuple" ∧ o.dict = none) ∨
      (T = "dict" ∧ ((∃ kvs, H p = some (.dK kvs)) ∨ ∃ kvs, H p = some (.dT kvs))) ∨ (T = "set" ∧ ∃ S n, H p = some (.set S n))
  | _ => False
theorem tyV_is {pins : List (Addr × Obj)} {σ : St} {H : Hp} {s : Shared} {T : String} {x : V} {v : Value} (I : Inv X pins σ H s) (r : RelV x v) (ty : tyV X.K T x H) :
    s.TypeIs v T ∧ ∀ a, v = .ref a → ∃ ob, s.heap.get? a = some ob ∧ ob.dict = none := by
  cases x with
  | str z =>
    obtain ⟨t, rfl⟩ := r
    cases (show T = "str" from ty)
    exact ⟨typeIs_str s z t, fun _ e => nomatch e⟩
  | int i =>
    obtain ⟨t, rfl⟩ := r
    cases (show T = "int" from ty)
    exact ⟨typeIs_int s i t, fun _ e => nomatch e⟩
  | ref p =>
    cases r
    rcases ty with ⟨rfl, xs, hq⟩ | ⟨rfl, o, hk, hc, hd⟩ | ⟨rfl, hk⟩ | ⟨rfl, S, n, hk⟩
    · obtain ⟨its, _, pl, _⟩ := I.list hq
      refine ⟨pl.isList.typeIs, fun a e => ?_⟩
      cases e
      obtain ⟨o, n, e, c, hd, _⟩ := pl
      exact ⟨o, e, hd⟩
    · refine ⟨⟨o, I.kIn p o hk, hc⟩, fun a e => ?_⟩
      cases e
      exact ⟨o, I.kIn _ o hk, hd⟩
    · have z : ∃ o, s.heap.get? p = some o ∧ o.ExactDict := by
        rcases hk with ⟨kvs, hk⟩ | ⟨kvs, hk⟩
        · obtain ⟨_, _, _, _, o, _, _, e, ex, _⟩ := I.hok p _ hk
          exact ⟨o, e, ex⟩
        · obtain ⟨_, _, _, _, o, _, _, e, ex, _⟩ := I.hok p _ hk
          exact ⟨o, e, ex⟩
      obtain ⟨o, e, ex⟩ := z
      refine ⟨⟨o, e, ex.1⟩, fun a e2 => ?_⟩
      cases e2
      exact ⟨o, e, ex.2.1⟩
    · obtain ⟨o, _, _, _, e, ex, _⟩ := I.hok p _ hk
      refine ⟨⟨o, e, ex.1⟩, fun a e2 => ?_⟩
      cases e2
      exact ⟨o, e, ex.2.1⟩
  | _ => exact False.elim ty
def tBM0 (K : PySem.W.Frag) (T : String) (r : V → List V → Hp → VK → Prop) (to : TE) : TE := fun σ H Q => to σ H fun x H1 => tyV K T x H1 ∧ r x [] H1 Q
def tBM (K : PySem.W.Frag) (T : String) (r : V → List V → Hp → VK → Prop) (to : TE) (t : TA) : TE := fun σ H Q => to σ H fun x H1 => tyV K T x H1 ∧ t σ H1 fun xs H2 => r x xs H2 Q
variable {o e : Expr} {es : List Expr} {to : TE} {t : TA} {name : Str} {apos cpos : Pos} {T id : String} {r : V → List V → Hp → VK → Prop}
theorem pe_bm0 (pa : PlainAttrs T) (slot : Slot T name id) (hty : typeOf (.builtin id) = pure (.type "method_descriptor")) (hm : MtR X id r) (ho : PE X o to)
    (hbase : attributeBase o name X.env (eval o X.env) = eval o X.env := by rfl) (hline : (apos.endLine == cpos.line) = true := by rfl) : PE X (.Call (.Attribute o name apos) [] [] cpos) (tBM0 X.K T r to) := by
  intro pins s σ H Q I h
  refine wpAny_Call_method0_late hbase hline (thn (ho pins s σ H _ I h) fun v s1 ⟨x, H1, I1, r1, ty, q1⟩ => ?_)
  obtain ⟨h1, h2⟩ := tyV_is I1 r1 ty
  exact ⟨T, id, pa, slot, hty, h1, h2, Calls.callWith_builtin rfl (PySem.evalArgs_none (hm pins s1 σ H1 x [] v [] Q I1 r1 .nil q1))⟩
theorem pe_bm (pa : PlainAttrs T) (slot : Slot T name id) (hty : typeOf (.builtin id) = pure (.type "method_descriptor")) (hm : MtR X id r) (ho : PE X o to) (ha : PA X (e :: es) t)
    (hbase : attributeBase o name X.env (eval o X.env) = eval o X.env := by rfl)
    (hfew : ((backTo cpos (starEach (e :: es) X.env)).all (fun x => !x.1) && (backToKw cpos (keywordEach [] X.env)).all (fun x => x.1.isSome)
      && decide ((e :: es).length + ([] : List Keyword).length + (if ([] : List Keyword).isEmpty then 0 else 1) < 30)) = true := by rfl)
    (hline : (apos.endLine == cpos.line) = true := by rfl) (hs : starEach (e :: es) X.env = (false, eval e X.env) :: starEach es X.env := by rfl) (hplain : (backTo cpos (starEach es X.env)).any (·.1) = false := by rfl) :
    PE X (.Call (.Attribute o name apos) (e :: es) [] cpos) (tBM X.K T r to t) := by
  intro pins s σ H Q I h
  refine wpAny_Call_method_late hbase hfew hline rfl (thn (ho pins s σ H _ I h) fun v s1 ⟨x, H1, I1, r1, ty, q1⟩ => ?_)
  obtain ⟨h1, h2⟩ := tyV_is I1 r1 ty
  refine ⟨T, id, pa, slot, hty, h1, h2, ?_⟩
  have hA := ha cpos pins s1 σ H1 _ I1 q1
  rw [hs] at hA ⊢
  refine Calls.callWith_builtin (by show (false || (backTo cpos (starEach es X.env)).any (·.1)) = false; rw [hplain] <;> rfl) (Calls.evalArgs_plain ?_)
  exact thn hA fun us s2 ⟨vs, H2, I2, r2, q2⟩ => hm pins s2 σ H2 x vs v us Q I2 r1 r2 q2
/- xs.append(e), list.index on a module's tuple .. are MtR facts of 06m -/
end
end L2

namespace L2
open PySem PySem.Spec PyProof.Rows

def MtM (X : Cx) (id : String) (r : V → List V → Hp → VK → Prop) : Prop :=
  ∀ (pins : List (Addr × Obj)) (s : Shared) (σ : St) (H : Hp) (x : V) (xs : List V) (v : Value) (us : List Value) (Q : VK), Inv X pins σ H s → RelV x v → Vals xs us → r x xs H Q →
    wpAny (model X.prog X.w) X.A (call (.builtin id) (v :: us)) (EP X pins σ Q) X.xe s

/-! ### lists of values -/
theorem Vals.one : ∀ {x : V} {us : List Value}, Vals [x] us → ∃ u, us = [u] ∧ RelV x u
  | _, _, .cons r .nil => ⟨_, rfl, r⟩
theorem Vals.two : ∀ {x y : V} {us : List Value}, Vals [x, y] us → ∃ u v, us = [u, v] ∧ RelV x u ∧ RelV y v
  | _, _, _, .cons r (.cons q .nil) => ⟨_, _, rfl, r, q⟩
theorem Vals.zero : ∀ {us : List Value}, Vals [] us → us = []
  | _, .nil => rfl
theorem Vals.dropLast {xs : List V} {us : List Value} (h : Vals xs us) : Vals xs.dropLast us.dropLast := by
  induction h with
  | nil => exact .nil
  | cons r t ih =>
    cases t with
    | nil => exact .nil
    | cons q t' => exact .cons r ih
theorem Vals.eraseIdx : ∀ {xs : List V} {us : List Value} (i : Nat), Vals xs us → Vals (xs.eraseIdx i) (us.eraseIdx i)
  | _, _, _, .nil => .nil
  | _, _, 0, .cons _ t => t
  | _, _, i + 1, .cons r t => .cons r (Vals.eraseIdx i t)
theorem Vals.reverse {xs : List V} {us : List Value} (h : Vals xs us) : Vals xs.reverse us.reverse := by
  induction h with
  | nil => exact .nil
  | cons r t ih => rw [List.reverse_cons, List.reverse_cons]; exact Vals.append ih (.cons r .nil)
theorem Vals.rep {xs : List V} {us : List Value} (h : Vals xs us) : ∀ k : Nat, Vals (List.replicate k xs).flatten (List.replicate k us).flatten
  | 0 => .nil
  | k + 1 => by
    rw [List.replicate_succ, List.replicate_succ, List.flatten_cons, List.flatten_cons]
    exact Vals.append h (Vals.rep h k)
theorem erase_last {α : Type} (l : List α) : l.eraseIdx (l.length - 1) = l.dropLast := by
  induction l with
  | nil => rfl
  | cons a r ih =>
    cases r with
    | nil => rfl
    | cons b r =>
      have e : (a :: b :: r).length - 1 = ((b :: r).length - 1) + 1 := by
        have h1 : (a :: b :: r).length = r.length + 2 := rfl
        have h2 : (b :: r).length = r.length + 1 := rfl
        omega
      rw [e, List.eraseIdx_cons_succ, ih]
      all_goals rfl
theorem len_erase {α : Type} : ∀ (l : List α) (i : Nat), (l.eraseIdx i).length ≤ l.length
  | [], _ => Nat.le_refl _
  | _ :: _, 0 => Nat.le_succ _
  | _ :: r, i + 1 => Nat.succ_le_succ (len_erase r i)
theorem foldl_rep (its : List Value) : ∀ (k : Nat) (acc : List Value),
    List.foldl (fun x1 x2 => x1 ++ x2) acc.toArray (List.replicate k its.toArray) = (acc ++ (List.replicate k its).flatten).toArray
  | 0, acc => by simp
  | k + 1, acc => by
    have e : acc.toArray ++ its.toArray = (acc ++ its).toArray := by simp
    have e2 : (acc ++ its) ++ (List.replicate k its).flatten = acc ++ (List.replicate (k + 1) its).flatten := by
      rw [List.replicate_succ, List.flatten_cons, List.append_assoc]
    rw [← e2, ← foldl_rep its k (acc ++ its), ← e, List.replicate_succ, List.foldl_cons]

section
variable {X : Cx} {pins : List (Addr × Obj)} {σ : St} {H : Hp} {s : Shared} {l b : Addr} {xs ys zs : List V}

/-! ### the two steps: a tracked list is rewritten, a new list is laid -/
theorem Inv.lset {its its' : List Value} {n : Nat} {f : Array Value → Array Value} {t' : Nat} (I : Inv X pins σ H s) (hH : H l = some (.lst xs))
    (e : s.heap.get? l = some { cls := .type "list", data := .seq its.toArray n }) (hf : f its.toArray = its'.toArray) (hv : Vals ys its') (hz : ys.length ≤ sizeLine) :
    Inv X pins σ (upd H l (.lst ys)) { s with heap := s.heap.update l (Obj.mapSeq f), toks := t' } := by
  have q := PySem.IsL.update e f
  rw [hf] at q
  refine I.write (x := l) (e := l) (by rw [hH]; exact trivial) (.inl rfl) (fun b' u hb hu => (Heap.get?_update_other s.heap (Obj.mapSeq f) (Ne.symm hb)).trans hu) ⟨_, q⟩ ?_
  exact ⟨hz, its', _, hv, q⟩
theorem Inv.lnew {its : List Value} {t' : Nat} (I : Inv X pins σ H s) (hv : Vals ys its) (hz : ys.length ≤ sizeLine) :
    Inv X pins σ (upd H s.heap.objs.size (.lst ys)) { s with heap := s.heap.push { cls := .type "list", data := .seq its.toArray }, toks := t' } :=
  I.laid (fun _ _ q => Heap.get?_push_of_some _ q) (Nat.le_refl _) ⟨hz, its, 0, hv, Heap.get?_push_size _ rfl⟩
theorem Inv.fresh (I : Inv X pins σ H s) : H s.heap.objs.size = none := I.hok.fresh (Nat.le_refl _)
theorem Inv.lstM (I : Inv X pins σ H s) (hH : H l = some (.lst xs)) : xs.length ≤ sizeLine ∧ ∃ (its : List Value) (n : Nat), Vals xs its ∧ xs.length = its.length ∧ s.heap.get? l = some { cls := .type "list", data := .seq its.toArray n } := by
  obtain ⟨z, its, n, r, e⟩ := I.hok l _ hH
  exact ⟨z, its, n, r, r.length, e⟩

theorem notLongL {n : Nat} (h : n ≤ sizeLine) : Builtin.List.listTooLong n = false := by
  unfold Builtin.List.listTooLong
  exact decide_eq_false (by omega)
end

section
variable {X : Cx}

/-! ### methods -/
def rAppend : V → List V → Hp → VK → Prop := fun x vs H Q => ∃ l xs y, x = .ref l ∧ vs = [y] ∧ H l = some (.lst xs) ∧ xs.length < sizeLine ∧ Q .non (upd H l (.lst (xs ++ [y])))
theorem mt_append : MtM X "list.append" rAppend := by
  intro pins s σ H x vs v us Q I rx rv h
  obtain ⟨l, xs, y, rfl, rfl, hH, hz, q⟩ := h
  cases rx
  obtain ⟨u, rfl, ru⟩ := rv.one
  obtain ⟨z, its, n, r, hl, e⟩ := I.lstM hH
  refine call_meets F.slot_list_append ⟨_, e, rfl⟩ F.entry_list_append (F.args_list_append_2 _ _) (PySem.list_append l its.toArray n u (by rw [List.size_toArray]; omega)) ⟨e, ?_⟩
  refine ⟨.non, _, I.lset (its' := its ++ [u]) hH e (by simp) (r.append (.cons ru .nil)) ?_, rfl, q⟩
  rw [List.length_append, List.length_singleton]
  omega

def rExtend : V → List V → Hp → VK → Prop := fun x vs H Q => ∃ l b xs zs, x = .ref l ∧ vs = [.ref b] ∧ H l = some (.lst xs) ∧ H b = some (.lst zs) ∧ xs.length + zs.length ≤ sizeLine ∧ Q .non (upd H l (.lst (xs ++ zs)))
theorem mt_extend : MtM X "list.extend" rExtend := by
  intro pins s σ H x vs v us Q I rx rv h
  obtain ⟨l, b, xs, zs, rfl, rfl, hH, hB, hz, q⟩ := h
  cases rx
  obtain ⟨u, rfl, ru⟩ := rv.one
  cases ru
  obtain ⟨z, its, n, r, hl, e⟩ := I.lstM hH
  obtain ⟨z2, its2, n2, r2, hl2, e2⟩ := I.lstM hB
  have hsz : its.toArray.size + its2.toArray.size ≤ sizeLine := by rw [List.size_toArray, List.size_toArray]; omega
  have hlong : ¬ (!its.toArray.isEmpty && Builtin.List.listTooLong (its.toArray.size + its2.toArray.size)) = true := by
    rw [notLongL hsz, Bool.and_false]
    exact Bool.false_ne_true
  refine call_meets F.slot_list_extend ⟨_, e, rfl⟩ F.entry_list_extend (F.args_list_extend_2 _ _)
    (AutoSeq1.list_extend_list_list_0 l its.toArray n b its2.toArray n2 hlong (by rw [List.size_toArray]; omega) (by omega)) ⟨e, e2, ?_⟩
  refine ⟨.non, _, I.lset (its' := its ++ its2) hH e (by simp) (r.append r2) ?_, rfl, q⟩
  rw [List.length_append]
  omega

def rPop : V → List V → Hp → VK → Prop := fun x vs H Q => ∃ l xs y, x = .ref l ∧ vs = [] ∧ H l = some (.lst xs) ∧ xs[xs.length - 1]? = some y ∧ Q y (upd H l (.lst xs.dropLast))
theorem mt_pop : MtM X "list.pop" rPop := by
  intro pins s σ H x vs v us Q I rx rv h
  obtain ⟨l, xs, y, rfl, rfl, hH, hy, q⟩ := h
  cases rx
  have hus := rv.zero
  subst hus
  obtain ⟨z, its, n, r, hl, e⟩ := I.lstM hH
  obtain ⟨u, hu, ru⟩ := r.get hy
  have hy' : its.toArray[its.toArray.size - 1]? = some u := by
    show its.toArray[its.length - 1]? = some u
    rw [← Array.getElem?_toList, ← hl]
    exact hu
  refine call_meets F.slot_list_pop ⟨_, e, rfl⟩ F.entry_list_pop (F.args_list_pop_1 _) (MeetsSeq.list_pop_last l its.toArray n u hy' (by rw [List.size_toArray]; omega)) ⟨e, ?_⟩
  refine ⟨y, _, I.lset (its' := its.dropLast) hH e ?_ r.dropLast ?_, ru, q⟩
  · show its.toArray.eraseIdxIfInBounds (its.toArray.size - 1) = its.dropLast.toArray
    rw [List.size_toArray, List.eraseIdxIfInBounds_toArray, erase_last]
  · rw [List.length_dropLast]
    omega

def rPopAt : V → List V → Hp → VK → Prop := fun x vs H Q => ∃ l xs i k y, x = .ref l ∧ vs = [.int i] ∧ H l = some (.lst xs) ∧ -(2 ^ 63) ≤ i ∧ i < 2 ^ 63 ∧ seqIndex? i xs.length = some k ∧ xs[k]? = some y ∧ Q y (upd H l (.lst (xs.eraseIdx k)))
theorem mt_popAt : MtM X "list.pop" rPopAt := by
  intro pins s σ H x vs v us Q I rx rv h
  obtain ⟨l, xs, i, k, y, rfl, rfl, hH, h1, h2, hk, hy, q⟩ := h
  cases rx
  obtain ⟨u, rfl, ru⟩ := rv.one
  obtain ⟨t, rfl⟩ := ru
  obtain ⟨z, its, n, r, hl, e⟩ := I.lstM hH
  obtain ⟨w, hw, rw'⟩ := r.get hy
  refine call_meets F.slot_list_pop ⟨_, e, rfl⟩ F.entry_list_pop (F.args_list_pop_2 _ _)
    (MeetsSeq.list_pop_at l its.toArray n i t k w (fitsIndex_both h1 h2) (by rw [List.size_toArray, ← hl]; exact hk) (by rw [← Array.getElem?_toList]; exact hw) (by rw [List.size_toArray]; omega)) ⟨e, ?_⟩
  refine ⟨y, _, I.lset (its' := its.eraseIdx k) hH e ?_ (r.eraseIdx k) ?_, rw', q⟩
  · show its.toArray.eraseIdxIfInBounds k = (its.eraseIdx k).toArray
    rw [List.eraseIdxIfInBounds_toArray]
  · have := len_erase xs k
    omega

def rReverse : V → List V → Hp → VK → Prop := fun x vs H Q => ∃ l xs, x = .ref l ∧ vs = [] ∧ H l = some (.lst xs) ∧ Q .non (upd H l (.lst xs.reverse))
theorem mt_reverse : MtM X "list.reverse" rReverse := by
  intro pins s σ H x vs v us Q I rx rv h
  obtain ⟨l, xs, rfl, rfl, hH, q⟩ := h
  cases rx
  have hus := rv.zero
  subst hus
  obtain ⟨z, its, n, r, hl, e⟩ := I.lstM hH
  refine call_meets F.slot_list_reverse ⟨_, e, rfl⟩ F.entry_list_reverse (F.args_list_reverse_1 _) (AutoSeq1.list_reverse_list_0 l its.toArray n (by rw [List.size_toArray]; omega)) ⟨e, ?_⟩
  refine ⟨.non, _, I.lset (its' := its.reverse) hH e (by simp) r.reverse ?_, rfl, q⟩
  rw [List.length_reverse]
  omega

def rClear : V → List V → Hp → VK → Prop := fun x vs H Q => ∃ l xs, x = .ref l ∧ vs = [] ∧ H l = some (.lst xs) ∧ Q .non (upd H l (.lst []))
theorem mt_clear : MtM X "list.clear" rClear := by
  intro pins s σ H x vs v us Q I rx rv h
  obtain ⟨l, xs, rfl, rfl, hH, q⟩ := h
  cases rx
  have hus := rv.zero
  subst hus
  obtain ⟨z, its, n, r, hl, e⟩ := I.lstM hH
  refine call_meets F.slot_list_clear ⟨_, e, rfl⟩ F.entry_list_clear (F.args_list_clear_1 _) (AutoSeq1.list_clear_list_0 l its.toArray n (by rw [List.size_toArray]; omega)) ⟨e, ?_⟩
  exact ⟨.non, _, I.lset (its' := []) (ys := []) hH e rfl .nil (Nat.zero_le _), rfl, q⟩

/-! ### list + list, list += list, list * int -/
def rCat : R2 := fun x y H Q => ∃ l b xs zs, x = .ref l ∧ y = .ref b ∧ H l = some (.lst xs) ∧ H b = some (.lst zs) ∧ xs.length + zs.length ≤ sizeLine ∧ ∀ p, H p = none → Q (.ref p) (upd H p (.lst (xs ++ zs)))
theorem op_cat : OpR X (binaryOp .Add) rCat := by
  intro pins s σ H x y v u Q I rx ry h
  obtain ⟨l, b, xs, zs, rfl, rfl, hH, hB, hz, q⟩ := h
  cases rx
  cases ry
  obtain ⟨z, its, n, r, hl, e⟩ := I.lstM hH
  obtain ⟨z2, its2, n2, r2, hl2, e2⟩ := I.lstM hB
  refine PySem.P.add_list e e2 ?_ (by rw [List.size_toArray, List.size_toArray]; omega)
  have ea : its.toArray ++ its2.toArray = (its ++ its2).toArray := by simp
  rw [ea]
  exact ⟨.ref _, _, I.lnew (t' := s.toks) (r.append r2) (by rw [List.length_append]; omega), rfl, q _ I.fresh⟩
/-- a list times an int (a negative one is nothing) -/
def rRep : R2 := fun x y H Q => ∃ l k xs, x = .ref l ∧ y = .int k ∧ H l = some (.lst xs) ∧ -(2 ^ 63) ≤ k ∧ k < 2 ^ 63 ∧ xs.length * k.toNat ≤ sizeLine ∧
  ∀ p, H p = none → Q (.ref p) (upd H p (.lst (List.replicate k.toNat xs).flatten))
theorem len_rep {α : Type} (xs : List α) (k : Nat) : (List.replicate k xs).flatten.length = k * xs.length := by
  induction k with
  | zero => simp
  | succ k ih => rw [List.replicate_succ, List.flatten_cons, List.length_append, ih, Nat.succ_mul, Nat.add_comm]
theorem op_rep : OpR X (binaryOp .Mult) rRep := by
  intro pins s σ H x y v u Q I rx ry h
  obtain ⟨l, k, xs, rfl, rfl, hH, h1, h2, hz, q⟩ := h
  cases rx
  obtain ⟨t, rfl⟩ := ry
  obtain ⟨z, its, n, r, hl, e⟩ := I.lstM hH
  have hlen : its.toArray.size * k.toNat ≤ sizeLine := by rw [List.size_toArray, ← hl]; exact hz
  have hcap : ¬ its.toArray.size * k.toNat > (2 ^ 63 - 1) / 8 := by
    have : (sizeLine : Nat) ≤ (2 ^ 63 - 1) / 8 := by decide
    omega
  have hfit : ¬ (!Builtin.List.listFitsIndex k) = true := by
    rw [fitsIndex_both h1 h2]
    exact Bool.false_ne_true
  have hlong : ¬ Builtin.List.listTooLong (its.toArray.size * k.toNat) = true := by
    rw [notLongL hlen]
    exact Bool.false_ne_true
  have hnew : List.foldl (fun x1 x2 => x1 ++ x2) #[] (List.replicate (if its.toArray.isEmpty = true then 0 else k.toNat) its.toArray) = (List.replicate k.toNat its).flatten.toArray := by
    have f0 : ∀ m : Nat, List.foldl (fun x1 x2 => x1 ++ x2) #[] (List.replicate m its.toArray) = (List.replicate m its).flatten.toArray := fun m => by
      have := foldl_rep its m []
      rw [List.nil_append] at this
      exact this
    rw [f0]
    cases its with
    | nil => simp
    | cons a r' => rw [if_neg (by simp)]
  refine wpAny_binaryOp_repeat_ref (T := "list") (U := "int") (by decide) ⟨_, e, rfl⟩ (fun s' => typeIs_int s' k t) noFill_list_mul F.fills_int_mul F.slot_int_rmul repeat_list F.slot_int_index.lookup
    (call_meets F.slot_int_rmul (typeIs_int s k t) F.entry_int_rmul (F.args_int_rmul_2 _ _) (int___rmul___int_list k t l its.toArray n)
      ⟨e, rfl, ⟨_, e, rfl⟩, call_meets F.slot_list_mul ⟨_, e, rfl⟩ F.entry_list_mul (F.args_list_mul_2 _ _) (AutoListH.list___mul___list_int_3 l its.toArray n k t hfit hcap hlong) ⟨e, ?_⟩⟩)
  rw [hnew]
  exact ⟨.ref _, _, I.lnew (t' := s.toks) (r.rep k.toNat) (by rw [len_rep, Nat.mul_comm]; exact hz), rfl, q _ I.fresh⟩

/-! ### del xs[i] -/
theorem del_list {pins : List (Addr × Obj)} {s : Shared} {σ : St} {H : Hp} {l : Addr} {xs : List V} {i : Int} {t : Tok} {k : Nat} {Q : Unit → Shared → Prop} (I : Inv X pins σ H s) (hH : H l = some (.lst xs))
    (h1 : -(2 ^ 63) ≤ i) (h2 : i < 2 ^ 63) (hk : seqIndex? i xs.length = some k) (h : ∀ s', Inv X pins σ (upd H l (.lst (xs.eraseIdx k))) s' → Q () s') :
    wpAny (model X.prog X.w) X.A (delItem (.ref l) (.int i t)) Q X.xe s := by
  obtain ⟨z, its, n, r, hl, e⟩ := I.lstM hH
  refine PySem.P.delItem_list (k := k) e (fitsIndex_both h1 h2) (by rw [List.size_toArray, ← hl]; exact hk) (h _ ?_) (by rw [List.size_toArray]; omega)
  refine I.lset (its' := its.eraseIdx k) (t' := s.toks) hH e ?_ (r.eraseIdx k) ?_
  · show its.toArray.eraseIdxIfInBounds k = (its.eraseIdx k).toArray
    rw [List.eraseIdxIfInBounds_toArray]
  · have := len_erase xs k
    omega
end

/-! ### xs[a:b] = ys -/
section
variable {prog : Program} {w : World} {A : Around} {E : Value → Shared → Prop} {s : Shared}
theorem splice_eq (its its2 : List Value) (a c : Nat) : its.toArray.extract 0 a ++ its2.toArray ++ its.toArray.extract c its.toArray.size = (its.take a ++ its2 ++ its.drop c).toArray := by
  apply Array.toList_inj.mp
  first
    | (simp
       exact List.take_of_length_le (by simp))
    | simp [List.take_of_length_le]
    | simp
theorem bounds_run {a c n : Nat} (hac : a ≤ c) (hc : c ≤ n) : sliceBounds (some (a : Int)) (some (c : Int)) none n = ((a : Int), (c : Int), 1) := by
  simp only [sliceBounds, Option.getD_none]
  have h1 : ¬ ((a : Int) < 0) := by omega
  have h2 : ¬ ((c : Int) < 0) := by omega
  simp only [h1, h2, if_false, show (1 : Int) > 0 by decide, if_true]
  congr 1
  · omega
  · congr 1; omega
set_option maxRecDepth 100000 in
/-- list.__setitem__ with a slice of step one and another list -/
theorem setItem_slice {l b sl : Addr} {items new : Array Value} {n n2 : Nat} {vl vu : Value} {a c : Nat} {Q : Unit → Shared → Prop}
    (e : s.heap.get? l = some { cls := .type "list", data := .seq items n }) (e2 : s.heap.get? b = some { cls := .type "list", data := .seq new n2 }) (hne : l ≠ b)
    (hs : s.heap.IsSliceOf sl vl vu .none) (pl : IsPart vl (some (a : Int))) (pu : IsPart vu (some (c : Int))) (hac : a ≤ c) (hc : c ≤ items.size)
    (hsz : items.size + new.size ≤ sizeLine) (h : Q () { s with heap := s.heap.update l (Obj.mapSeq fun xs => xs.extract 0 a ++ new ++ xs.extract c xs.size) }) :
    wpAny (model prog w) A (setItem (.ref l) (.ref sl) (.ref b)) Q E s := by
  have hl : s.heap.IsList l items := PySem.IsL.isList e
  have hb : s.heap.IsList b new := PySem.IsL.isList e2
  obtain ⟨os, hos, hcs, hds⟩ := id hs
  have hTs : s.TypeIs (.ref sl) "slice" := ⟨os, hos, hcs⟩
  have hstep : ¬ ((rawPart none == rawInt 0) = true) := Bool.false_ne_true
  have hsame : Builtin.List.listSameRef (.ref l) (.ref b) = false := by
    unfold Builtin.List.listSameRef
    exact beq_eq_false_iff_ne.mpr hne
  have hmax : (max (a : Int) (c : Int)).toNat = c := by omega
  have hz' : ((fun xs : Array Value => xs.extract 0 a ++ new ++ xs.extract c xs.size) items).size ≤ sizeLine + 1 := by
    simp only [Array.size_append, Array.size_extract]
    omega
  unfold setItem
  try with_reducible refine wpAny_holding ?_
  first | refine wpAny_bind (wpAny_pure ?_) | skip
  refine wpAny_bind (wpAny_sequenceKey hl.typeIs (by decide) ?_)
  refine wpAny_bind (wpAny_callSpecial?_slot (name := Str.ofString "__setitem__") hl.typeIs slot_list_setitem
    (wpAny_call_entry slot_list_setitem hl.typeIs entry_list_setitem ?_ (args_list_setitem _ _ _)))
  show wpAny _ _ (Builtin.List.listSubscript? (.ref sl) >>= _) _ _ s
  refine wpAny_bind ?_
  unfold Builtin.List.listSubscript?
  refine wpAny_bind (wpAny_specialOf hTs slice_no_index ?_)
  simp only [Option.isNone_none, if_true]
  refine wpAny_pure ?_
  show wpAny _ _ (typeOf (.ref sl) >>= _) _ _ s
  refine wpAny_bind (wpAny_typeOf hTs ?_)
  first
    | rw [if_neg (by decide)]
    | refine PySem.W.KFB.if_not (by decide) ?_
  rw [listSliceParts_eq]
  refine wpAny_bind (wpAny_bind (wpAny_field hos hds (x := .none) rfl (wpAny_bind (wpAny_listPart .none ?_))))
  rw [if_neg hstep]
  refine wpAny_bind (wpAny_field hos hds (x := vl) rfl (wpAny_bind (wpAny_listPart pl ?_)))
  refine wpAny_bind (wpAny_field hos hds (x := vu) rfl (wpAny_bind (wpAny_listPart pu (wpAny_pure ?_))))
  first
    | simp only [hsame, Bool.false_eq_true, if_false]
    | refine PySem.W.KFB.if_not hsame ?_
    | (dsimp only
       rw [if_neg (by rw [hsame]; exact Bool.false_ne_true)])
  refine wpAny_bind (m := Builtin.List.listAllItems (.ref b) "must assign iterable to extended slice") ?_
  unfold Builtin.List.listAllItems
  refine wpAny_bind (wpAny_typeOf hb.typeIs ?_)
  first
    | refine PySem.W.KFB.if_so (by decide) ?_
    | rw [if_pos (by decide)]
    | simp only [beq_self_eq_true, Bool.true_or, if_true]
  unfold Builtin.List.listItems
  refine wpAny_bind (wpAny_seqItems e2 rfl (wpAny_pure ?_))
  refine wpAny_bind (wpAny_bind (wpAny_seqItems e rfl (wpAny_pure ?_)))
  refine wpAny_bind (wpAny_of_eq ((sliceIndices_raw (some (a : Int)) (some (c : Int)) none items.size (by simp)).trans (congrArg (pure : Int × Int × Int → Sem (Int × Int × Int)) (bounds_run hac hc))) ?_)
  show wpAny _ _ (if ((1 : Int) == 1) = true then _ else _) _ _ s
  rw [if_pos (by decide)]
  refine wpAny_bind (wpAny_rule ?_)
  first
    | simp only [notLongL hsz, Bool.false_eq_true, if_false]
    | refine PySem.W.KFB.if_not (notLongL hsz) ?_
  first | refine wpAny_bind (wpAny_pure ?_) | skip
  show wpAny _ _ (updateSeq l (fun xs => xs.extract 0 ((a : Int)).toNat ++ new ++ xs.extract (max (a : Int) (c : Int)).toNat xs.size) >>= _) _ _ s
  rw [hmax, Int.toNat_natCast]
  refine wpAny_bind (wpAny_updateSeq (hz := Nat.le_trans (Nat.le_add_right _ _) hsz) (_hz' := hz') e rfl ?_)
  refine wpAny_bind (wpAny_letGo ?_)
  first
    | exact wpAny_bind (wpAny_pure (wpAny_pure ⟨.none, rfl, wpAny_pure h⟩))
    | exact wpAny_pure ⟨.none, rfl, wpAny_pure h⟩
end

section
variable {X : Cx}
/-- xs[a:c] = ys of another list, at the value level: sl is the slice object that was just made -/
theorem set_slice {pins : List (Addr × Obj)} {s : Shared} {σ : St} {H : Hp} {l b sl : Addr} {xs ys : List V} {a c : Int} {vl vu : Value} {Q : Unit → Shared → Prop} (I : Inv X pins σ H s)
    (hH : H l = some (.lst xs)) (hB : H b = some (.lst ys)) (hne : l ≠ b) (hs : s.heap.IsSliceOf sl vl vu .none) (ra : RelV (.int a) vl) (rc : RelV (.int c) vu) (h0 : 0 ≤ a) (hac : a ≤ c) (hc : c ≤ xs.length)
    (hz : xs.length + ys.length ≤ sizeLine) (h : ∀ s', Inv X pins σ (upd H l (.lst (xs.take a.toNat ++ ys ++ xs.drop c.toNat))) s' → Q () s') :
    wpAny (model X.prog X.w) X.A (setItem (.ref l) (.ref sl) (.ref b)) Q X.xe s := by
  obtain ⟨ta, rfl⟩ := ra
  obtain ⟨tc, rfl⟩ := rc
  obtain ⟨z, its, n, r, hl, e⟩ := I.lstM hH
  obtain ⟨z2, its2, n2, r2, hl2, e2⟩ := I.lstM hB
  obtain ⟨a', rfl⟩ := Int.eq_ofNat_of_zero_le h0
  obtain ⟨c', rfl⟩ := Int.eq_ofNat_of_zero_le (Int.le_trans h0 hac)
  simp only [Int.toNat_natCast] at h
  refine setItem_slice (a := a') (c := c') e e2 hne hs (.int _ _) (.int _ _) (by omega) (by rw [List.size_toArray]; omega) (by rw [List.size_toArray, List.size_toArray]; omega) (h _ ?_)
  refine I.lset (its' := its.take a' ++ its2 ++ its.drop c') (t' := s.toks) hH e ?_ (Vals.append (Vals.append (r.take _) r2) (r.drop _)) ?_
  · exact splice_eq its its2 a' c'
  · rw [List.length_append, List.length_append, List.length_take, List.length_drop]
    omega
end
end L2

namespace Att
open PySem PySem.W PySem.Calls PyProof.Rows

/-! ### the script -/
theorem ints_of_wellAll {P : Params} {h : Heap} : ∀ (ns : List Int) (vs : List Value), WellAll P h vs (ns.map WData.int) → IntsAre vs ns := by
  intro ns
  induction ns with
  | nil =>
    intro vs w
    rw [List.map_nil] at w
    cases w
    exact .nil
  | cons n ns ih =>
    intro vs w
    rw [List.map_cons] at w
    cases w with
    | cons a b =>
      cases a
      exact .cons _ _ (ih _ b)

theorem script_of {l : OpenLaw} {n : Nat} (hn : l.most = some n) {P : Params} {h : Heap} {args : List WData} {vals : List Value}
    (hpre : l.row.toRowW.claim.pre args = true) (hwl : WellAll P h vals args) :
    ∃ a vs ns, vals = [Value.ref a] ∧ args = [WData.list (ns.map WData.int)] ∧ h.get? a = some { cls := .type "list", data := .seq vs.toArray } ∧ IntsAre vs ns ∧ ns.length ≤ n := by
  have hsh : WShape.hasAll [] args [.list .int] = true := (pre_splitW hpre).1
  have hc : l.pre.holds [] { args := args } = true := (pre_splitW hpre).2
  obtain ⟨d, r, rfl, h1, h2⟩ := hasAllW_cons hsh
  obtain rfl := hasAllW_nil h2
  obtain ⟨xs, rfl, h3⟩ := hasW_list h1
  obtain ⟨ns, rfl⟩ := items_int h3
  have hlen : ns.length ≤ n := by
    unfold OpenLaw.pre at hc
    have h4 : (WTm.not (.lt (.lit (.int (n : Int))) (.len (.arg 0)))).holds [] { args := [.list (ns.map .int)] } = true := by
      have h4 := (holds_andW hc).1
      rw [hn] at h4
      exact h4
    have h5 := condW_of h4 (w_not (w_lt w_lit (w_len_list (w_arg rfl))))
    rw [List.length_map] at h5
    refine Nat.le_of_not_lt fun q => ?_
    have q' : (n : Int) < ((ns.length : Nat) : Int) := by omega
    first
      | (rw [decide_eq_true q'] at h5; exact absurd h5 (by decide))
      | (simp at h5; omega)
  cases hwl with
  | cons w1 w2 =>
    cases w2
    cases w1 with
    | list ho hall => exact ⟨_, _, ns, rfl, rfl, ho, ints_of_wellAll ns _ hall, hlen⟩

theorem post_true (l : OpenLaw) (args : List WData) : l.row.toRowW.claim.post args (.bool true) args = true :=
  postW_of (r := l.row.toRowW) (X := (true == true))
    (show WShape.has [] (.bool true) .bool = true by first | rfl | decide | simp [WShape.has, WShape.arms, WShape.armsAll])
    (show (WTm.eq .res (.lit (.bool true))).value [] { args := args, res := some (.bool true), after := args } = some (.bool (true == true)) from w_eq_bool (w_res rfl) w_lit) rfl

/-! ### the attachment: holds_open's last premise (the goal 'hc' behind k_head) from a wpAny of the law's body -/
theorem attach {l : OpenLaw} {n : Nat} {q : Program} {loose : List Str} {XP : (Str → Option Value) → Heap → Prop} {YP : World → Heap → Prop} {d : DefRec} {x : Str}
    (hn : l.most = some n) (hdf : d.params.defaults = [])
    (hbind : ∀ pm cd doc v : Value, bindArgs (docDef d.name d.params d.body d.scope pm cd doc) ⟨[v], []⟩ = pure [(x, v)])
    (hx : d.scope.names.lookup x = some .local ∨ d.scope.names.lookup x = some .cell)
    (hk : d.scope.kind = .function) (hco : d.scope.isCoroutine = false) (hgen : d.scope.isGenerator = false)
    (body : ∀ (w : World) (s₀ s₁ s : Shared) (mg mb : Str → Option Value) (fa : Addr) (o : Obj) (pm cd doc : Value) (a : Addr) (vs : List Value) (ns : List Int),
      Ground q loose [] XP w s₀ mg mb s₁.heap → YP w s₁.heap →
      s₁.heap.get? fa = some o → o.data = .func (docDef d.name d.params d.body d.scope pm cd doc) → s₁.heap.CodeRec cd d.name → mg d.name = some (.ref fa) →
      s₁.heap.get? a = some { cls := .type "list", data := .seq vs.toArray } → IntsAre vs ns → ns.length ≤ n →
      s.gens = #[] → s.os = s₁.os →
      Fr s₁.heap s₁.heap.objs.size s.heap (bindL (envOfC d.name d.scope s₁.heap.objs.size fa cd).kindOf [(x, .ref a)] fun _ => none) →
      Cl s₁.heap.objs.size (cellsFrom (s₁.heap.objs.size + 1) d.scope.names []) s.heap (bindC (envOfC d.name d.scope s₁.heap.objs.size fa cd).kindOf [(x, .ref a)] fun _ => none) →
      wpAny (model l.prog w) (callerA.deeper (envOfC d.name d.scope s₁.heap.objs.size fa cd)) (execs d.body (envOfC d.name d.scope s₁.heap.objs.size fa cd))
        (fun f s' => f = .ret (.bool true) ∧ OldK s₁.heap s'.heap ∧ s'.os = s₁.os ∧ AllBare s'.gens) (fun _ _ => False) s) :
    WalkO q loose XP YP l.row.toRowW d [] (fun f vs => PySem.call f vs) := by
  intro w s₀ s₁ mg mb G Y fa o pm cd doc dV kV ho hd hcd hD hmg hg args vals as hpre hlay hrd hwl hlo
  obtain rfl : dV = .none := Dflts.none hD hdf
  obtain rfl : kV = .none := Dflts.noKw hD
  obtain ⟨a, vs, ns, rfl, rfl, hobj, hints, hlen⟩ := script_of hn hpre hwl
  refine enter_call ?_
  refine call_cells_ret (o := o) (by rw [depth_caller]; decide) ho (fd_plain hd) G.T.nolimit hcd (hbind pm cd doc (.ref a)) (fun y hy => ?_) (fun h₁ tk F X => ?_) hco hgen hk
  · obtain rfl : y = (x, Value.ref a) := List.mem_singleton.mp hy
    rcases hx with e | e
    · exact .inl e
    · exact .inr ⟨e, cellsFrom_some _ _ _ (.inl e)⟩
  · refine wpAny_mono (body w s₀ s₁ { s₁ with heap := h₁, toks := tk } mg mb fa o pm cd doc a vs ns G Y ho (fd_plain hd) hcd hmg hobj hints hlen hg rfl F X) (fun f s' hq => ?_) (fun _ _ hq => hq)
    obtain ⟨rfl, h2, h3, h4⟩ := hq
    exact ⟨.inl ⟨.bool true, .bool true, [], rfl, fun _ => rfl, .bool true, post_true l _, fun _ => ⟨List.Pairwise.nil, fun _ hm => (nomatch hm)⟩⟩, h2, h3, h4⟩

/-- the same from a codeAny of the CALL (for a layer whose function contracts speak of calls) -/
theorem attach_call {l : OpenLaw} {n : Nat} {q : Program} {loose : List Str} {XP : (Str → Option Value) → Heap → Prop} {YP : World → Heap → Prop} {d : DefRec}
    (hn : l.most = some n) (hdf : d.params.defaults = [])
    (call : ∀ (w : World) (s₀ s₁ : Shared) (mg mb : Str → Option Value) (fa : Addr) (o : Obj) (pm cd doc : Value) (a : Addr) (vs : List Value) (ns : List Int),
      Ground q loose [] XP w s₀ mg mb s₁.heap → YP w s₁.heap →
      s₁.heap.get? fa = some o → o.data = .func (docDef d.name d.params d.body d.scope pm cd doc) → s₁.heap.CodeRec cd d.name → mg d.name = some (.ref fa) →
      s₁.heap.get? a = some { cls := .type "list", data := .seq vs.toArray } → IntsAre vs ns → ns.length ≤ n → s₁.gens = #[] →
      codeAny (model l.prog w) callerA (.call (.ref fa) ⟨[.ref a], []⟩) (fun r s' => r = .ok (.ret (.bool true)) ∧ OldK s₁.heap s'.heap ∧ s'.os = s₁.os ∧ AllBare s'.gens) s₁) :
    WalkO q loose XP YP l.row.toRowW d [] (fun f vs => PySem.call f vs) := by
  intro w s₀ s₁ mg mb G Y fa o pm cd doc dV kV ho hd hcd hD hmg hg args vals as hpre hlay hrd hwl hlo
  obtain rfl : dV = .none := Dflts.none hD hdf
  obtain rfl : kV = .none := Dflts.noKw hD
  obtain ⟨a, vs, ns, rfl, rfl, hobj, hints, hlen⟩ := script_of hn hpre hwl
  refine enter_call (codeAny_mono (call w s₀ s₁ mg mb fa o pm cd doc a vs ns G Y ho (fd_plain hd) hcd hmg hobj hints hlen hg) fun r s' hq => ?_)
  obtain ⟨rfl, h2, h3, h4⟩ := hq
  exact ⟨.inl ⟨.bool true, .bool true, [], rfl, fun _ => rfl, .bool true, post_true l _, fun _ => ⟨List.Pairwise.nil, fun _ hm => (nomatch hm)⟩⟩, h2, h3, h4⟩

/-- the same where the top left finished generators (o_head chose holds_openN): nothing may have changed at all and no generator may be left -/
theorem attachN {l : OpenLaw} {n : Nat} {q : Program} {loose : List Str} {XP : (Str → Option Value) → Heap → Prop} {YP : World → Heap → Prop} {d : DefRec} {x : Str}
    (hn : l.most = some n) (hdf : d.params.defaults = [])
    (hbind : ∀ pm cd doc v : Value, bindArgs (docDef d.name d.params d.body d.scope pm cd doc) ⟨[v], []⟩ = pure [(x, v)])
    (hx : d.scope.names.lookup x = some .local ∨ d.scope.names.lookup x = some .cell)
    (hk : d.scope.kind = .function) (hco : d.scope.isCoroutine = false) (hgen : d.scope.isGenerator = false)
    (body : ∀ (w : World) (s₀ s₁ s : Shared) (mg mb : Str → Option Value) (fa : Addr) (o : Obj) (pm cd doc : Value) (a : Addr) (vs : List Value) (ns : List Int),
      Ground q loose [] XP w s₀ mg mb s₁.heap → YP w s₁.heap →
      s₁.heap.get? fa = some o → o.data = .func (docDef d.name d.params d.body d.scope pm cd doc) → s₁.heap.CodeRec cd d.name → mg d.name = some (.ref fa) →
      s₁.heap.get? a = some { cls := .type "list", data := .seq vs.toArray } → IntsAre vs ns → ns.length ≤ n →
      s.gens = #[] → s.os = s₁.os →
      Fr s₁.heap s₁.heap.objs.size s.heap (bindL (envOfC d.name d.scope s₁.heap.objs.size fa cd).kindOf [(x, .ref a)] fun _ => none) →
      Cl s₁.heap.objs.size (cellsFrom (s₁.heap.objs.size + 1) d.scope.names []) s.heap (bindC (envOfC d.name d.scope s₁.heap.objs.size fa cd).kindOf [(x, .ref a)] fun _ => none) →
      wpAny (model l.prog w) (callerA.deeper (envOfC d.name d.scope s₁.heap.objs.size fa cd)) (execs d.body (envOfC d.name d.scope s₁.heap.objs.size fa cd))
        (fun f s' => f = .ret (.bool true) ∧ (∀ b o, s₁.heap.get? b = some o → s'.heap.get? b = some o) ∧ s'.os = s₁.os ∧ s'.gens = #[]) (fun _ _ => False) s) :
    WalkN q loose XP YP l.row.toRowW d [] (fun f vs => PySem.call f vs) := by
  intro w s₀ s₁ mg mb G Y fa o pm cd doc dV kV ho hd hcd hD hmg hg args vals as hpre hlay hrd hwl hlo
  obtain rfl : dV = .none := Dflts.none hD hdf
  obtain rfl : kV = .none := Dflts.noKw hD
  obtain ⟨a, vs, ns, rfl, rfl, hobj, hints, hlen⟩ := script_of hn hpre hwl
  refine enter_callW ?_
  refine call_cells_ret (o := o) (by rw [depth_caller]; decide) ho (fd_plain hd) G.T.nolimit hcd (hbind pm cd doc (.ref a)) (fun y hy => ?_) (fun h₁ tk F X => ?_) hco hgen hk
  · obtain rfl : y = (x, Value.ref a) := List.mem_singleton.mp hy
    rcases hx with e | e
    · exact .inl e
    · exact .inr ⟨e, cellsFrom_some _ _ _ (.inl e)⟩
  · refine wpAny_mono (body w s₀ s₁ { s₁ with heap := h₁, toks := tk } mg mb fa o pm cd doc a vs ns G Y ho (fd_plain hd) hcd hmg hobj hints hlen hg rfl F X) (fun f s' hq => ?_) (fun _ _ hq => hq)
    obtain ⟨rfl, h2, h3, h4⟩ := hq
    exact ⟨.inl ⟨.bool true, .bool true, [], rfl, fun _ => rfl, .bool true, post_true l _, fun _ => ⟨List.Pairwise.nil, fun _ hm => (nomatch hm)⟩⟩, h2, h3, h4⟩

/-! ### rules over ANY heap (no ledger) from facts about the written part K: the library's own take a ledger (News) for what they write -/
section
variable {prog : Program} {w : World} {A : Around} {E : Value → Shared → Prop} {s : Shared} {K : Frag}

/-- a def of the module, or a method (qual 'C.m'), entered: the frame is the next address; cells behind it -/
theorem call_fn {R : Result → Shared → Prop} {name qual : Str} {params : Arguments} {body : List Stmt} {scope : Scope} {dV kV doc pm cdv ct oc : Value} {an od : Option Addr} {osl : Array (Option Value)} {f : Addr} {args : Args} {binds : List (Str × Value)}
    (X : K.In s.heap) (hlim : s.heap.NoLimit) (ho : K.lookup f = some ⟨oc, od, .func (fnOf name qual params body scope dV kV doc pm an cdv ct), osl⟩) (hcd : codeIn K cdv qual = true) (hroom : A.depth < recursionLimit)
    (hbind : BindsTo s (fnOf name qual params body scope dV kV doc pm an cdv ct) args binds)
    (hkind : (binds.all fun y => scope.names.lookup y.1 == some .local || scope.names.lookup y.1 == some .cell) = true)
    (h : ∀ s₁, InCallC s s.heap.objs.size (bindL (envOfC qual scope s.heap.objs.size f cdv).kindOf binds fun _ => none) (cellsFrom (s.heap.objs.size + 1) scope.names [])
        (bindC (envOfC qual scope s.heap.objs.size f cdv).kindOf binds fun _ => none) s₁ →
      wpAny (model prog w) (A.deeper (envOfC qual scope s.heap.objs.size f cdv)) (execs body (envOfC qual scope s.heap.objs.size f cdv))
        (fun fl s' => R (.ok (.ret (match fl with | .ret v => v | _ => .none))) s')
        (fun e s' => wpAny (model prog w) (A.deeper (envOfC qual scope s.heap.objs.size f cdv)) (leaving (envOfC qual scope s.heap.objs.size f cdv) e) (fun _ s'' => R (.error e) s'') (fun e' s'' => R (.error e') s'') s') s₁)
    (hco : scope.isCoroutine = false) (hgen : scope.isGenerator = false) (hk : scope.kind = .function) : codeAny (model prog w) A (.call (.ref f) args) R s := by
  refine codeAny_call_function hroom (X _ _ ho) rfl hco hgen rfl (codeRec_of X hcd) (hbind _ _ _ _ ?_)
  refine wpAny_newFunctionEnv_cells hk (kindsX hkind _) fun env he s₁ x => ?_
  subst he
  exact ⟨hlim.keeps x.toInCall.keep, codeAny_func (h s₁ x)⟩

/-- C(..): dict at size, instance at size + 1, then __init__ -/
theorem make_obj {R : Result → Shared → Prop} {C fI : Addr} {rest : List Value} {kw : List (Str × Value)}
    (X : K.In s.heap) (hm : makesIn K C = true) (hi : findIn K (.ref C) "__init__" = some (some (.ref fI))) (hf : isFn K (.ref fI) = true)
    (h : codeAny (model prog w) (A.under (.builtin "type.__call__" ⟨.ref C :: rest, kw⟩)) (.call (.ref fI) ⟨.ref (s.heap.objs.size + 1) :: rest, kw⟩) (InitBack (s.heap.objs.size + 1) R)
      { s with heap := (s.heap.push emptyDict).push (instObj C s.heap.objs.size) }) : codeAny (model prog w) A (.call (.ref C) ⟨rest, kw⟩) R s := by
  obtain ⟨hh, g, d, t, os⟩ := s
  exact make_core (makes_of X hm) (looks_findIn X hi) (fun self => bind_fn X self (beq_iff_eq.mp hf)) (.inl rfl) h

/-- x.name where the instance's dict holds the name and the class does not -/
theorem get_field {x C : Addr} {ox : Obj} {es : List DictEntry} {n : Nat} {name : Str} {expr : Bool} {v : Value} {Q : Value → Shared → Prop}
    (X : K.In s.heap) (I : PySem.W.InstAt s.heap x ox C (some (dictOf es n))) (hg : plainGet K C name = true) (hh : hasDictIn K C = true) (ha : findIn K (.ref C) name = some none)
    (hl : getL name es = some (some v)) (hv : handedIn v = true) (h : Q v { s with toks := s.toks + 1 }) : wpAny (model prog w) A (getAttr (.ref x) name expr) Q E s :=
  get_value X I (plainGet_of hg).1 (findObj_own hh ha rfl hl) hv h

/-- x.m(..): the method found in the class -/
theorem get_method {x C f : Addr} {ox : Obj} {es : List DictEntry} {n : Nat} {name : Str} {pl : Sem Bool} {Q : Value × List Value → Shared → Prop}
    (X : K.In s.heap) (I : PySem.W.InstAt s.heap x ox C (some (dictOf es n))) (hg : plainGet K C name = true) (hf : findIn K (.ref C) name = some (some (.ref f))) (ht : isFn K (.ref f) = true)
    (hl : getL name es = some none) (h : Q (.ref f, [.ref x]) s) : wpAny (model prog w) A (getMethod (.ref x) name pl) Q E s :=
  method_fn X I (plainGet_of hg).1 (plainGet_of hg).2 hf (beq_iff_eq.mp ht) (by show (lookIn name (dictOf es n)).map _ = _; rw [lookIn_dict, hl]; rfl) h

/-! the whole heap as the ledger: makes every rule that writes through a ledger a rule over any heap -/
def noObjs (h : Heap) : Heap := { h with objs := #[] }
theorem noObjs_get (h : Heap) (b : Addr) : (noObjs h).get? b = none := by
  cases e : (noObjs h).get? b with
  | none => rfl
  | some o => exact absurd (Heap.lt_size e) (Nat.not_lt_zero _)
def ledger (h : Heap) (L d : Addr) : List (Addr × Obj) := (List.range h.objs.size).filterMap fun a => if a = L ∨ a = d then none else (h.get? a).map fun o => (a, o)
theorem mem_ledger {h : Heap} {L d a : Addr} {o : Obj} : (a, o) ∈ ledger h L d ↔ a ≠ L ∧ a ≠ d ∧ h.get? a = some o := by
  unfold ledger
  rw [List.mem_filterMap]
  constructor
  · rintro ⟨b, _, e⟩
    split at e
    · cases e
    · rename_i hb
      obtain ⟨o', ho, e'⟩ := Option.map_eq_some_iff.mp e
      cases e'
      exact ⟨fun q => hb (.inl q), fun q => hb (.inr q), ho⟩
  · rintro ⟨n1, n2, ho⟩
    refine ⟨a, List.mem_range.mpr (Heap.lt_size ho), ?_⟩
    rw [if_neg (show ¬ (a = L ∨ a = d) from fun q => q.elim n1 n2), ho] <;> rfl
theorem news_ledger {h : Heap} {L d : Addr} {od : Obj} (hne : d ≠ L) (ho : h.get? d = some od) : News (noObjs h) L h ([] ++ (d, od) :: ledger h L d) := by
  rintro ⟨a, o⟩ hp
  rcases List.mem_cons.mp hp with e | hp
  · cases e
    exact ⟨ho, hne, noObjs_get _ _⟩
  · obtain ⟨n1, n2, e⟩ := mem_ledger.mp hp
    exact ⟨e, n1, noObjs_get _ _⟩
theorem fr_all {h : Heap} {L : Addr} {m : Str → Option Value} (n : h.Ns L m) : Fr (noObjs h) L h m :=
  ⟨n, fun b o e => (by rw [noObjs_get] at e; cases e), Nat.zero_le _⟩
/-- Upd of the head entry (for append_K, setItem_K ..) -/
theorem upd_ledger {h : Heap} {L d : Addr} {o o' : Obj} : Upd d o o' ((d, o) :: ledger h L d) ((d, o') :: ledger h L d) :=
  .head fun ⟨_, _⟩ hp => (mem_ledger.mp hp).2.1

/-- x.name = v over any heap: L is any namespace of the heap (the frame's, say): its map stays, its object is not told; all else but the dict stays -/
theorem set_field {x C dx L : Addr} {ox : Obj} {m : Str → Option Value} {es es' : List DictEntry} {n n' : Nat} {name : Str} {v : Value} {Q : Unit → Shared → Prop}
    (X : K.In s.heap) (I : PySem.W.InstAt s.heap x ox C (some (dictOf es n))) (hd : ox.dict = some dx) (hL : s.heap.Ns L m) (hne : dx ≠ L)
    (hs : findIn K (.ref C) "__setattr__" = some (some (.builtin "object.__setattr__"))) (hp : plainOver K C = true) (ht : takerIn K C name = some none) (hh : hasDictIn K C = true) (hl : (getL name es).isSome = true)
    (e : (putL name (PyData.keyHash w.params name) (.str name (s.toks + 1)) v es, putN name es n) = (es', n')) (hz : es'.length ≤ 1000)
    (h : ∀ h' : Heap, h'.Ns L m → h'.get? dx = some (dictOf es' n') → (∀ b o, b ≠ dx → b ≠ L → s.heap.get? b = some o → h'.get? b = some o) → Q () { s with heap := h', toks := s.toks + 2 }) :
    wpAny (model prog w) A (setAttr (.ref x) name v) Q E s := by
  obtain ⟨e1, e2⟩ := Prod.mk.inj e
  have hdx : s.heap.get? dx = some (dictOf es n) := by
    have := I.dict
    rw [hd] at this
    exact this
  refine set_plain X I hs (osa_dict (s := { s with toks := s.toks + 1 }) (h₀ := noObjs s.heap) (L := L) (m := m) (od := dictOf es n) (od' := dictOf es' n') (es := es') (n := n') (pre := []) (post := ledger s.heap L dx)
    (fr_all hL) (news_ledger hne hdx) X I hd hp ht hh hl (fun _ q => nomatch q) (fun ⟨_, _⟩ q => (mem_ledger.mp q).2.1) (by rw [putName_dict, e1, e2]) rfl hz fun h' F' N' => ?_)
  exact h h' F'.ns (N'.get (List.Mem.head _)) fun b o n1 n2 ho => N'.get (List.Mem.tail _ (mem_ledger.mpr ⟨n2, n1, ho⟩))
end
end Att

namespace L2
open PySem PySem.Spec PyProof.Rows

theorem vals_ints : ∀ {vs : List Value} {ns : List Int}, IntsAre vs ns → Vals (ns.map V.int) vs
  | _, _, .nil => .nil
  | _, _, .cons n t h => .cons ⟨t, rfl⟩ (vals_ints h)

/-- nothing is tracked but the script, known to the object (or it is an object of the module) -/
def Only (H : Hp) : Prop := ∀ b, H b = none ∨ ∃ o xs, H b = some (.frz o (.lst xs))

/-- THE HEAD: the law's promise, at the heap behind the top. F, the promise of the law's def, may use that base is part of the heap (so K.In base, base.Ns mainGlobals mg stand in Mod) -/
theorem law_call {P : Program} {w : World} {K : PySem.W.Frag} {mg mb : Str → Option Value} {CX : CXT} {k : Nat} {fa a : Addr} {fd : FuncData} {x : Str} {sp : Sp} {s₁ : Shared} {vs : List Value} {ns : List Int}
    (KX : K.In s₁.heap) (hns : s₁.heap.Ns mainGlobals mg) (hb : s₁.heap.Ns builtinsNs mb) (hbb : ∀ x : Str, x ≠ "__name__" → mb x = bootBuiltins x) (hlim : s₁.heap.NoLimit) (hg : s₁.gens = #[])
    (ha : s₁.heap.get? a = some { cls := .type "list", data := .seq vs.toArray }) (hi : IntsAre vs ns) (hl : ns.length ≤ sizeLine) (hr : Room k callerA)
    (F : ∀ base : Heap, K.In base → base.Ns mainGlobals mg → FnOk P w K mg base CX k fa fd [x] sp) (hbind : ∀ (s : Shared) (u : Value), BindsTo s fd ⟨[u], []⟩ [(x, u)])
    (hsp : ∀ H : Hp, Only H → SqL K H a (ns.map V.int) → sp [.ref a] H (fun v _ => v = .bl true) fun _ _ _ => False)
    (hCX : ∀ H e s', CX [] H s₁ (fun _ _ _ => False) e s' → False) :
    codeAny (model P w) callerA (.call (.ref fa) ⟨[.ref a], []⟩) (fun r s' => r = .ok (.ret (.bool true)) ∧ OldK s₁.heap s'.heap ∧ s'.os = s₁.os ∧ AllBare s'.gens) s₁ := by
  have rv := vals_ints hi
  have lenV := hi.length
  -- from an abstract heap in which nothing but the script may be tracked
  have core : ∀ H : Hp, Only H → SqL K H a (ns.map V.int) → HOk P w H s₁.heap → (∀ b, H b ≠ none → b = a) → (H a ≠ none → K.lookup a = none) →
      codeAny (model P w) callerA (.call (.ref fa) ⟨[.ref a], []⟩) (fun r s' => r = .ok (.ret (.bool true)) ∧ OldK s₁.heap s'.heap ∧ s'.os = s₁.os ∧ AllBare s'.gens) s₁ := by
    intro H hO hS hok hA hK
    have base_of : ∀ {b : Addr} {o : Obj}, s₁.heap.get? b = some o → H b = none → (hidT s₁.heap H).get? b = some o := fun e n => hidT_get e n
    have noA : ∀ {b : Addr} {o : Obj} {es : Array DictEntry} {ep : Nat}, s₁.heap.get? b = some o → o.data = .dict es ep → H b = none := fun {b o es ep} e d => by
      cases q : H b with
      | none => rfl
      | some u =>
        have e' : b = a := hA b (by rw [q]; simp)
        subst e'
        rw [ha] at e; cases e
        have d' : Data.seq vs.toArray _ = Data.dict es ep := d
        cases d'
    have nsK : ∀ {b : Addr} {m : Str → Option Value}, s₁.heap.Ns b m → (hidT s₁.heap H).Ns b m := fun {b m} ⟨o, es, ep, e, d, r⟩ => ⟨o, es, ep, base_of e (noA e d), d, r⟩
    have hKb : K.In (hidT s₁.heap H) := fun b o e => base_of (KX b o e) (by
      cases q : H b with
      | none => rfl
      | some u =>
        have e' : b = a := hA b (by rw [q]; simp)
        subst e'
        rw [hK (by rw [q]; simp)] at e; cases e)
    have hM : Mod K mg (hidT s₁.heap H) := ⟨hKb, nsK hns, ⟨mb, nsK hb, hbb⟩, let ⟨mc, h1, h2⟩ := hlim; ⟨mc, nsK h1, h2⟩⟩
    have e0 : Env0 P w K mg (hidT s₁.heap H) callerA [] s₁ H := ⟨rfl, hM, fun b o e => of_hidT e, Nat.le_of_eq (hidT_size _ _), trivial, fun b hb => absurd (show b ∈ ([] : List Addr) from hb) (by simp), hok, .of_eq hg⟩
    refine codeAny_mono ((F _ hKb (nsK hns)).run callerA [] s₁ H ⟨[.ref a], []⟩ [.ref a] [.ref a] _ _ hr e0 (hbind s₁ (.ref a)) (.cons rfl .nil) (hsp H hO hS)) fun r s' h => ?_
    cases r with
    | error e => exact (hCX H e s' h).elim
    | ok fl =>
      cases fl with
      | next => exact False.elim h
      | brk => exact False.elim h
      | cont => exact False.elim h
      | ret u =>
        obtain ⟨v, H', os, bare, un, hok', r', q⟩ := h
        have q' : v = .bl true := q
        subst q'
        obtain rfl : u = Value.bool true := r'
        refine ⟨rfl, OldK.of_keep fun b o e => ?_, os, bare⟩
        cases q : H b with
        | none => exact un.keep b o e q (by intro z; exact absurd (show b ∈ ([] : List Addr) from z) (by simp)) (by simp)
        | some u =>
          rcases hO b with z | ⟨ob, xs, z⟩
          · rw [q] at z; cases z
          · have z2 := un.frzs b ob _ z
            obtain ⟨e1, _⟩ := hok b _ z
            obtain ⟨e2, _⟩ := hok' b _ z2
            rw [e] at e1; cases e1
            exact e2
  cases hk : K.lookup a with
  | some o =>
    -- the script is one of the module's own objects
    have e := KX a o hk
    rw [ha] at e
    cases e
    refine core (fun _ => none) (fun _ => .inl rfl) (.inr ⟨_, vs.toArray, _, hk, rfl, rfl, rfl, by rw [List.size_toArray, lenV]; exact hl, by simpa using rv⟩) (fun b u z => by have z' : (none : Option HO) = some u := z; cases z') (fun b z => absurd rfl z) fun z => absurd rfl z
  | none =>
    refine core (fun b => if b = a then some (.frz { cls := .type "list", data := .seq vs.toArray } (.lst (ns.map V.int))) else none) (fun b => ?_) (.inl (.inr ⟨{ cls := .type "list", data := .seq vs.toArray }, if_pos rfl⟩)) (fun b u z => ?_) (fun b z => ?_) fun _ => hk
    · by_cases hb : b = a
      · exact .inr ⟨_, _, if_pos hb⟩
      · exact .inl (if_neg hb)
    · by_cases hb : b = a
      · have z' := (if_pos hb).symm.trans z
        cases z'
        subst hb
        exact ⟨ha, by rw [List.length_map]; exact hl, vs, _, rv, ha⟩
      · have z' := (if_neg hb).symm.trans z
        cases z'
    · by_cases hb : b = a
      · exact hb
      · exact absurd (if_neg hb) z
end L2

namespace L2
open PySem PySem.Spec PyProof.Rows

abbrev KOf {K : PySem.W.Frag} {h : Heap} (_ : K.In h) : PySem.W.Frag := K

/-- the goal that k_head leaves (case hc), from the law's promise. F gives the function object fd (K's own) once, then the promise over every base -/
theorem walk_of {l : PySem.W.OpenLaw} {n k : Nat} {q : Program} {loose : List Str} {XP : (Str → Option Value) → Heap → Prop} {YP : World → Heap → Prop} {d : DefRec} {K : Params → PySem.W.Frag} {CX : World → CXT} {sp : World → Sp} {x : Str}
    (hn : l.most = some n) (hn2 : n ≤ sizeLine) (hdf : d.params.defaults = []) (hr : Room k callerA)
    (hY : ∀ (w : World) (h : Heap), YP w h → (K w.params).In h)
    (F : ∀ (w : World) (mg : Str → Option Value) (fa : Addr) (h : Heap), (K w.params).In h → h.Ns mainGlobals mg → mg d.name = some (.ref fa) →
      ∃ fd : FuncData, (∀ (s : Shared) (u : Value), BindsTo s fd ⟨[u], []⟩ [(x, u)]) ∧
        ∀ base : Heap, (K w.params).In base → base.Ns mainGlobals mg → FnOk l.prog w (K w.params) mg base (CX w) k fa fd [x] (sp w))
    (hsp : ∀ (w : World) (H : Hp) (a : Addr) (ns : List Int), ns.length ≤ n → Only H → SqL (K w.params) H a (ns.map V.int) → sp w [.ref a] H (fun v _ => v = .bl true) fun _ _ _ => False)
    (hCX : ∀ (w : World) (H : Hp) (s : Shared) (e : Value) (s' : Shared), CX w [] H s (fun _ _ _ => False) e s' → False) :
    PySem.W.WalkO q loose XP YP l.row.toRowW d [] (fun f vs => PySem.call f vs) := by
  refine Att.attach_call hn hdf fun w s₀ s₁ mg mb fa o pm cd doc a vs ns G Y ho hd hcd hmg hobj hints hlen hg => ?_
  have KX := hY w _ Y
  obtain ⟨fd, hb, hF⟩ := F w mg fa _ KX G.T.g hmg
  exact law_call KX G.T.g G.T.b G.T.builtins G.T.nolimit hg hobj hints (Nat.le_trans hlen hn2) hr hF hb (fun H hO hS => hsp w H a ns hlen hO hS) fun H e s' => hCX w H s₁ e s'
/-- the same where the promise hangs on the written part alone: (sp := My.sp_law), no hole under a binder -/
theorem walk_ofK {l : PySem.W.OpenLaw} {n k : Nat} {q : Program} {loose : List Str} {XP : (Str → Option Value) → Heap → Prop} {YP : World → Heap → Prop} {d : DefRec} {K : Params → PySem.W.Frag} {CX : CXT} {sp : PySem.W.Frag → Sp} {x : Str}
    (hn : l.most = some n) (hn2 : n ≤ sizeLine) (hdf : d.params.defaults = []) (hr : Room k callerA)
    (hY : ∀ (w : World) (h : Heap), YP w h → (K w.params).In h)
    (F : ∀ (w : World) (mg : Str → Option Value) (fa : Addr) (h : Heap), (K w.params).In h → h.Ns mainGlobals mg → mg d.name = some (.ref fa) →
      ∃ fd : FuncData, (∀ (s : Shared) (u : Value), BindsTo s fd ⟨[u], []⟩ [(x, u)]) ∧
        ∀ base : Heap, (K w.params).In base → base.Ns mainGlobals mg → FnOk l.prog w (K w.params) mg base CX k fa fd [x] (sp (K w.params)))
    (hsp : ∀ (K : PySem.W.Frag) (H : Hp) (a : Addr) (ns : List Int), ns.length ≤ n → Only H → SqL K H a (ns.map V.int) → sp K [.ref a] H (fun v _ => v = .bl true) fun _ _ _ => False)
    (hCX : ∀ (H : Hp) (s : Shared) (e : Value) (s' : Shared), CX [] H s (fun _ _ _ => False) e s' → False) :
    PySem.W.WalkO q loose XP YP l.row.toRowW d [] (fun f vs => PySem.call f vs) :=
  walk_of (K := K) (CX := fun _ => CX) (sp := fun w => sp (K w.params)) hn hn2 hdf hr hY F (fun w H a ns h1 h2 h3 => hsp (K w.params) H a ns h1 h2 h3) fun _ H s e s' => hCX H s e s'
end L2

/- THE LAST THEOREM (shape; LID, My.* are yours):
   My.Adr: a structure of the addresses that your layer names (classes, functions); My.Txt K t: a structure (Prop) of the equations over K;
   My.txt_mk : {K} {implicit addresses ..} (e1 : nsIn K mainGlobals "law" = some (some (.ref f))) (e2 : K.lookup f = some ⟨oc, od, .func (fnOf "law" "law" params body scope dV kV doc pm an cdv ct), sl⟩) (e3 : codeIn K cdv "law" = true) .. : ∃ t, My.Txt K t

set_option maxRecDepth 100000 in
set_option maxHeartbeats 0 in
theorem PySem.Challenge.cw_LID_holds : PySem.Challenge.rw_LID.Holds := by
  w_on; o_law; k_head; (case hw => w_witness2)
  k_fill
  refine L2.walk_of (l := PySem.Challenge.rw_LID) (n := 63) (k := 40) (x := "script") (CX := fun w => ..) (sp := fun _ => My.sp_law) rfl (by decide) rfl ⟨rfl, by decide, by decide⟩ (fun w h Y => PySem.W.kIn_of Y) ?F ?S ?C
  case F =>
    intro w mg fa h KX G hmg
    have T : ∃ t, My.Txt (L2.KOf KX) t := by
      dsimp only [L2.KOf]                          -- K must stand as «<heap const> w.params» for k_is
      refine' My.txt_mk ?e1 ?e2 ?e3 ..
      (case e1 => PySem.W.k_is)                    -- in the order: a name -> its address -> its object -> its parts
      (case e2 => PySem.W.k_is)
      ..
    obtain ⟨t, T⟩ := T
    have e0 := hmg.symm.trans (PySem.W.mg_of KX G T.law)
    cases e0                                       -- fa is the law's own address
    exact ⟨_, fun s u => .of_eq rfl, fun base kb nb => My.law_fn T kb nb⟩     -- if «.of_eq rfl» comes too early: refine' ⟨_, ?b, fun base kb nb => My.law_fn T kb nb⟩; exact fun s u => .of_eq rfl
  case S => exact fun w H a ns hl hO hS => ..
  case C => exact ..
(the tactic k_is has no namespace: write k_is) -/

/-! SHORT WORDS over the layer: a def of the text, its body, what a loop and a test want. -/
namespace L2
open PySem PySem.Spec PyProof.Rows

/-! ### the text by places -/
/-- the j-th statement of a class's body -/
def inClass (s : Stmt) (j : Nat) : Stmt := match s with
  | .ClassDef _ _ _ body _ _ _ _ _ _ _ => body.getD j (.Pass ⟨0, 0, 0, 0⟩)
  | _ => .Pass ⟨0, 0, 0, 0⟩
def defArgs (s : Stmt) : Arguments := match s with
  | .FunctionDef _ a _ _ _ _ _ _ _ _ => a
  | _ => { posonlyargs := [], args := [], vararg := none, kwonlyargs := [], kw_defaults := [], kwarg := none, defaults := [] }
def defBody (s : Stmt) : List Stmt := match s with
  | .FunctionDef _ _ b _ _ _ _ _ _ _ => b
  | _ => []
def defScope (s : Stmt) : Scope := match s with
  | .FunctionDef _ _ _ _ _ _ sc _ _ _ => sc
  | _ => { kind := .function, names := [], isGenerator := false, isCoroutine := false }

/-! ### no exception leaves a def -/
abbrev CX0 : CXT := fun _ _ _ _ _ _ => False
abbrev E0 : XK := fun _ _ _ => False
theorem pass0 {X : Cx} : Passes CX0 X E0 := fun _ _ _ _ _ _ _ h => h.elim

/-! ### a def (or method) of the text as it stands behind the top -/
structure Fun (K : PySem.W.Frag) (x qual : Str) (st : Stmt) (f : Addr) (fd : FuncData) : Prop where
  ex : ∃ (oc : Value) (od : Option Addr) (kV doc pm : Value) (an : Option Addr) (cdv ct : Value) (osl : Array (Option Value)),
    fd = PySem.W.fnOf x qual (defArgs st) (defBody st) (defScope st) .none kV doc pm an cdv ct ∧ K.lookup f = some ⟨oc, od, .func fd, osl⟩ ∧ PySem.W.codeIn K cdv qual = true
  kp : PySem.W.keepIn K (.ref f) = true
section
variable {P : Program} {w : World} {K : PySem.W.Frag} {mg : Str → Option Value} {base : Heap}
/-- THE RULE for a def: its body as a term of rules, and the reading of that term -/
theorem Fun.ok {x qual : Str} {st : Stmt} {f : Addr} {fd : FuncData} {N ps : List Str} {k : Nat} {sp : Sp} (F : Fun K x qual st f fd) (S : FnScope N ps (defScope st)) (len : ∀ vs H Q E, sp vs H Q E → vs.length = ps.length)
    (hbody : ∀ (cdv : Value) (A : Around) (outer : List Env) (s : Shared) (H : Hp) (vs : List V) (Q : VK) (E : XK), Room k (A.deeper (envOfC qual (defScope st) s.heap.objs.size f cdv)) → sp vs H Q E →
      ∃ t, PSs (cxOf CX0 P w K mg base N qual (defScope st) f cdv A outer s H E).nox (defBody st) t ∧ t { nx := fun _ H' => Q .non H', rt := Q } (start N vs) H) : FnOk P w K mg base CX0 (k + 1) f fd ps sp := by
  obtain ⟨oc, od, kV, doc, pm, an, cdv, ct, osl, rfl, lk, hcd⟩ := F.ex
  refine fn_of lk hcd S len fun A outer s H vs Q E hr hsp => ?_
  obtain ⟨t, h, q⟩ := hbody cdv A outer s H vs Q E hr hsp
  exact ⟨t, h.nox, q⟩
/-- how its arguments bind (no defaults): h is «fun _ _ _ _ _ _ us hl => match us, hl with | [_, _], _ => rfl», one _ a parameter -/
theorem Fun.binds {x qual : Str} {st : Stmt} {f : Addr} {fd : FuncData} {ps : List Str} (F : Fun K x qual st f fd)
    (h : ∀ (kV doc pm : Value) (an : Option Addr) (cdv ct : Value) (us : List Value), us.length = ps.length → bindArgs (PySem.W.fnOf x qual (defArgs st) (defBody st) (defScope st) .none kV doc pm an cdv ct) ⟨us, []⟩ = pure (ps.zip us)) : Binds K fd ps [] := by
  obtain ⟨oc, od, kV, doc, pm, an, cdv, ct, osl, rfl, lk, hcd⟩ := F.ex
  exact .all (h kV doc pm an cdv ct)
theorem fun_mk {x qual : Str} {st : Stmt} {f : Addr} {oc : Value} {od an : Option Addr} {osl : Array (Option Value)} {kV doc pm cdv ct : Value} (l : K.lookup f = some ⟨oc, od, .func (PySem.W.fnOf x qual (defArgs st) (defBody st) (defScope st) .none kV doc pm an cdv ct), osl⟩)
    (c : PySem.W.codeIn K cdv qual = true) (k : PySem.W.keepIn K (.ref f) = true) : Fun K x qual st f (PySem.W.fnOf x qual (defArgs st) (defBody st) (defScope st) .none kV doc pm an cdv ct) := ⟨⟨oc, od, kV, doc, pm, an, cdv, ct, osl, rfl, l, c⟩, k⟩
end
theorem hu_of {A : Around} {k : Nat} (hr : Room k A) : A.units + 1 < cLine := Nat.lt_of_le_of_lt (Nat.add_le_add_left (by decide : 1 ≤ 64) _) hr.units
theorem small1000 {n : Nat} (h : n ≤ 1000) : n < sizeLine := Nat.lt_of_le_of_lt h (by decide)

/-! ### expressions in short: the name that stands in the i-th slot -/
section
variable {X : Cx}
theorem pv (i : Nat) {x : Str} {pos : Pos} (hN : X.N[i]? = some x := by rfl) (hv : Vis X.env.scope x := by first | exact Or.inl rfl | exact Or.inr (Or.inl rfl) | exact Or.inr (Or.inr rfl)) (hd : (x == ("__debug__" : Str)) = false := by decide)
    (hcd : (x == ("__classdict__" : Str)) = false := by decide) : PE X (.Name x pos) (tVar i) := pe_var hN hv hd hcd
end

/-! ### tests -/
theorem iteF {A B : Prop} (h : B) : if false = true then A else B := by
  rw [if_neg Bool.false_ne_true]
  exact h
theorem iteT {A B : Prop} (h : A) : if true = true then A else B := by
  rw [if_pos rfl]
  exact h
theorem ite2 {c A B : Prop} [Decidable c] (h1 : c → A) (h2 : ¬ c → B) : if c then A else B := by
  by_cases h : c
  · rw [if_pos h]
    exact h1 h
  · rw [if_neg h]
    exact h2 h
theorem iteNS {c A B : Prop} [Decidable c] (hc : c) (h : B) : if (!decide c) = true then A else B := by
  rw [decide_eq_true hc]
  exact iteF h

/-! ### heaps -/
/-- all that was tracked is as it was -/
def Same (H H' : Hp) : Prop := ∀ b o, H b = some o → H' b = some o
theorem Same.refl (H : Hp) : Same H H := fun _ _ h => h
theorem Same.trans {H H1 H2 : Hp} (a : Same H H1) (b : Same H1 H2) : Same H H2 := fun c o h => b c o (a c o h)
theorem Same.free {H H' : Hp} (e : Same H H') {l : Addr} (h : H' l = Option.none) : H l = Option.none := by
  cases q : H l with
  | none => rfl
  | some o =>
    rw [e l o q] at h
    cases h
theorem Same.seq {K : PySem.W.Frag} {H H' : Hp} {a : Addr} {xs : List V} (e : Same H H') (h : SqL K H a xs) : SqL K H' a xs := by
  rcases h with (h | ⟨o, h⟩) | h
  · exact .inl (.inl (e _ _ h))
  · exact .inl (.inr ⟨o, e _ _ h⟩)
  · exact .inr h

end L2

set_option Elab.async false
set_option linter.all false
set_option maxRecDepth 100000
namespace L2
open PySem PySem.Spec PyProof.Rows

/-! ### more operations -/
section
variable {X : Cx}
/-- two lists of ints -/
def rEqL (K : PySem.W.Frag) : R2 := fun x y H Q => ∃ (a b : Addr) (ns ms : List Int), x = .ref a ∧ y = .ref b ∧ SqL K H a (ns.map V.int) ∧ SqL K H b (ms.map V.int) ∧ Q (.bl (decide (ns = ms))) H
def rNeL (K : PySem.W.Frag) : R2 := fun x y H Q => ∃ (a b : Addr) (ns ms : List Int), x = .ref a ∧ y = .ref b ∧ SqL K H a (ns.map V.int) ∧ SqL K H b (ms.map V.int) ∧ Q (.bl (!decide (ns = ms))) H
theorem op_eqL (hu : X.A.units + 64 < cLine) : OpR X (compareOp .Eq) (rEqL X.K) := by
  intro pins s σ H x y v u Q I rx ry h
  obtain ⟨a, b, ns, ms, rfl, rfl, h1, h2, q⟩ := h
  obtain rfl : v = Value.ref a := rx
  obtain rfl : u = Value.ref b := ry
  obtain ⟨its, r1, p1, _⟩ := I.list h1
  obtain ⟨its2, r2, p2, _⟩ := I.list h2
  exact PySem.W.eq_intsK p1.isList (intsAre_of r1) p2.isList (intsAre_of r2) hu ⟨.bl _, H, I, rfl, q⟩
theorem op_neL (hu : X.A.units + 64 < cLine) : OpR X (compareOp .NotEq) (rNeL X.K) := by
  intro pins s σ H x y v u Q I rx ry h
  obtain ⟨a, b, ns, ms, rfl, rfl, h1, h2, q⟩ := h
  obtain rfl : v = Value.ref a := rx
  obtain rfl : u = Value.ref b := ry
  obtain ⟨its, r1, p1, _⟩ := I.list h1
  obtain ⟨its2, r2, p2, _⟩ := I.list h2
  exact PySem.W.ne_intsK p1.isList (intsAre_of r1) p2.isList (intsAre_of r2) hu ⟨.bl _, H, I, rfl, q⟩

/-! any data -/
mutual
def RD (K : PySem.W.Frag) (H : Hp) : PyData → V → Prop
  | .none, v => v = .non
  | .bool b, v => v = .bl b
  | .int i, v => v = .int i
  | .str x, v => v = .str x
  | .list ds, v => ∃ a xs, v = .ref a ∧ SqL K H a xs ∧ RDs K H ds xs
  | .tuple ds, v => ∃ a xs, v = .ref a ∧ SqT K H a xs ∧ RDs K H ds xs
  | .dict _, _ => False
def RDs (K : PySem.W.Frag) (H : Hp) : List PyData → List V → Prop
  | [], xs => xs = []
  | d :: ds, xs => ∃ x r, xs = x :: r ∧ RD K H d x ∧ RDs K H ds r
end
mutual
theorem RD.reads {pins : List (Addr × Obj)} {σ : St} {H : Hp} {s : Shared} (I : Inv X pins σ H s) : ∀ (d : PyData) (v : V) (u : Value), RD X.K H d v → RelV v u → ∃ as, Reads s.heap u d as
  | .none, v, u, h, r => by
    have e : v = .non := by simpa [RD] using h
    subst e; cases (show u = Value.none from r); exact ⟨_, .none⟩
  | .bool b, v, u, h, r => by
    have e : v = .bl b := by simpa [RD] using h
    subst e; cases (show u = Value.bool b from r); exact ⟨_, .bool b⟩
  | .int i, v, u, h, r => by
    have e : v = .int i := by simpa [RD] using h
    subst e; obtain ⟨t, rfl⟩ := (show ∃ t, u = Value.int i t from r); exact ⟨_, .int i t⟩
  | .str x, v, u, h, r => by
    have e : v = .str x := by simpa [RD] using h
    subst e; obtain ⟨t, rfl⟩ := (show ∃ t, u = Value.str x t from r); exact ⟨_, .str x t⟩
  | .list ds, v, u, h, r => by
    unfold RD at h
    obtain ⟨a, xs, rfl, hs, hr⟩ := h
    cases (show u = Value.ref a from r)
    obtain ⟨its, rv, p, _⟩ := I.list hs
    obtain ⟨o, e, c, n, d⟩ := p.isList
    obtain ⟨as, h2⟩ := RDs.reads I ds xs its hr rv
    exact ⟨_, .list e c d (by simpa using h2)⟩
  | .tuple ds, v, u, h, r => by
    unfold RD at h
    obtain ⟨a, xs, rfl, hs, hr⟩ := h
    cases (show u = Value.ref a from r)
    obtain ⟨its, rv, p, _⟩ := I.tuple hs
    obtain ⟨o, e, c, n, d⟩ := p
    obtain ⟨as, h2⟩ := RDs.reads I ds xs its hr rv
    exact ⟨_, .tuple e c d (by simpa using h2)⟩
  | .dict _, v, u, h, r => by unfold RD at h; exact h.elim
theorem RDs.reads {pins : List (Addr × Obj)} {σ : St} {H : Hp} {s : Shared} (I : Inv X pins σ H s) : ∀ (ds : List PyData) (xs : List V) (us : List Value), RDs X.K H ds xs → Vals xs us → ∃ as, ReadsAll s.heap us ds as
  | [], xs, us, h, r => by
    have e : xs = [] := by simpa [RDs] using h
    subst e; cases r; exact ⟨_, .nil⟩
  | d :: ds, xs, us, h, r => by
    unfold RDs at h
    obtain ⟨x, rs, rfl, h1, h2⟩ := h
    cases r with
    | cons r1 r2 =>
      obtain ⟨as, q1⟩ := RD.reads I d x _ h1 r1
      obtain ⟨bs, q2⟩ := RDs.reads I ds rs _ h2 r2
      exact ⟨_, .cons q1 q2⟩
end
def rEqD (K : PySem.W.Frag) : R2 := fun x y H Q => ∃ d e, RD K H d x ∧ RD K H e y ∧ SeqAt.shaped d = true ∧ SeqAt.shaped e = true ∧ Q (.bl (PyData.eqv d e)) H
def rNeD (K : PySem.W.Frag) : R2 := fun x y H Q => ∃ d e, RD K H d x ∧ RD K H e y ∧ SeqAt.shaped d = true ∧ SeqAt.shaped e = true ∧ Q (.bl (!PyData.eqv d e)) H
theorem op_eqD (hu : X.A.units + 64 < cLine) : OpR X (compareOp .Eq) (rEqD X.K) := by
  intro pins s σ H x y v u Q I rx ry h
  obtain ⟨d, e, h1, h2, h3, h4, q⟩ := h
  obtain ⟨as, r1⟩ := RD.reads I d x v h1 rx
  obtain ⟨bs, r2⟩ := RD.reads I e y u h2 ry
  exact eq_dataH r1 r2 h3 h4 hu ⟨.bl _, H, I, rfl, q⟩
theorem op_neD (hu : X.A.units + 64 < cLine) : OpR X (compareOp .NotEq) (rNeD X.K) := by
  intro pins s σ H x y v u Q I rx ry h
  obtain ⟨d, e, h1, h2, h3, h4, q⟩ := h
  obtain ⟨as, r1⟩ := RD.reads I d x v h1 rx
  obtain ⟨bs, r2⟩ := RD.reads I e y u h2 ry
  exact ne_dataH r1 r2 h3 h4 hu ⟨.bl _, H, I, rfl, q⟩

/-! a product of two great numbers, by their bits -/
def CMulB (m n : Nat) (i j : Int) : Prop := i.natAbs < 2 ^ m ∧ j.natAbs < 2 ^ n
theorem op_mulB (m n : Nat) (h : m + n ≤ 134217728) : OpR X (binaryOp .Mult) (rI (CMulB m n) fun i j => .int (i * j)) :=
  opI fun i j _ _ _ _ _ hc q => mul_int q (IntMulOk.of_le (intBits_le_iff.mpr hc.1) (intBits_le_iff.mpr hc.2) h)

/-! isinstance(x, T) -/
def rIsi (K : PySem.W.Frag) : List V → Hp → VK → Prop := fun xs H Q => ∃ x t n b, xs = [x, .ty n] ∧ TyOf K H x t ∧ PySem.W.kitOne K t (.type n) = some b ∧ Q (.bl b) H
theorem call_isi : CallR X (.builtin "isinstance") (rIsi X.K) := by
  intro pins s σ H xs us Q I r h
  obtain ⟨x, t, n, b, rfl, ty, e, q⟩ := h
  obtain ⟨u, w', rfl, rx, ry⟩ := vals2 r
  cases (show w' = Value.type n from ry)
  exact isinst_ok I rx ty e fun tk => ⟨.bl _, H, I.tok _, rfl, q⟩
end

/-! built-ins by named relations -/
section
variable {X : Cx}
def rLen (K : PySem.W.Frag) : List V → Hp → VK → Prop := fun xs H Q => ∃ p ys, xs = [.ref p] ∧ (SqL K H p ys ∨ SqT K H p ys) ∧ Q (.int ys.length) H
theorem c_len : CallR X (.builtin "len") (rLen X.K) := call_len_seq
def rLenS : List V → Hp → VK → Prop := fun xs H Q => ∃ z, xs = [.str z] ∧ z.length ≤ sizeLine ∧ Q (.int z.length) H
theorem c_lenS : CallR X (.builtin "len") rLenS := call_len_str
def rListOf (K : PySem.W.Frag) : List V → Hp → VK → Prop := fun xs H Q => ∃ p ys, xs = [.ref p] ∧ (SqL K H p ys ∨ SqT K H p ys) ∧ ∀ l, H l = none → Q (.ref l) (upd H l (.lst ys))
theorem c_list : CallR X (.type "list") (rListOf X.K) := call_list_of
def rMin : List V → Hp → VK → Prop := fun xs H Q => ∃ i j, xs = [.int i, .int j] ∧ Q (.int (if j < i then j else i)) H
theorem c_min (hc : X.calm = true) : CallR X (.builtin "min") rMin := call_min2 hc
def rMax : List V → Hp → VK → Prop := fun xs H Q => ∃ i j, xs = [.int i, .int j] ∧ Q (.int (if j > i then j else i)) H
theorem c_max (hc : X.calm = true) : CallR X (.builtin "max") rMax := call_max2 hc
def rAbs : List V → Hp → VK → Prop := fun xs H Q => ∃ i : Int, xs = [.int i] ∧ Q (.int (if i < 0 then -i else i)) H
theorem c_abs : CallR X (.builtin "abs") rAbs := call_abs
def rInt : List V → Hp → VK → Prop := fun xs H Q => (∃ i, xs = [.int i] ∧ Q (.int i) H) ∨ ∃ k : Bool, xs = [.bl k] ∧ Q (.int (if k then 1 else 0)) H
theorem c_int : CallR X (.type "int") rInt := call_int1
end

/-! ### readings, each as a step backwards -/
section
variable {X : Cx} {K : PySem.W.Frag} {σ : St} {H : Hp} {D : Ends} {Q : VK} {te ta tb : TE} {t u : TS} {i : Nat} {v : V} {r : R2} {xs : List V} {tt tt' : TT} {QT : Bool → Hp → Prop} {tA : TA} {QA : List V → Hp → Prop}
theorem r_seq (h : t { D with nx := u D } σ H) : tSeq t u D σ H := h
theorem r_next (h : D.nx σ H) : tNext D σ H := h
theorem r_asg {g : TG} (h : te σ H fun x H1 => g x σ H1 D.nx) : tAsg te g D σ H := h
theorem r_gname {Q : St → Hp → Prop} (h : Q (σ.set i (some v)) H) : gName i v σ H Q := h
theorem r_var (h : σ[i]? = some (some v)) (k : Q v H) : tVar i σ H Q := ⟨v, h, k⟩
theorem r_c (k : Q v H) : tC v σ H Q := k
theorem r_op (h : ta σ H fun x H1 => tb σ H1 fun y H2 => r x y H2 Q) : tOp r ta tb σ H Q := h
theorem r_I0 {g : Int → Int → V} {a b : Int} (k : Q (g a b) H) : rI0 g (.int a) (.int b) H Q := ⟨a, b, rfl, rfl, k⟩
theorem r_I {C : Int → Int → Prop} {g : Int → Int → V} {a b : Int} (c : C a b) (k : Q (g a b) H) : rI C g (.int a) (.int b) H Q := ⟨a, b, rfl, rfl, c, k⟩
theorem r_eq {x y : V} (c : scal x y = true) (k : Q (.bl (decide (x = y))) H) : rEq x y H Q := ⟨c, k⟩
theorem r_ne {x y : V} (c : scal x y = true) (k : Q (.bl (!decide (x = y))) H) : rNe x y H Q := ⟨c, k⟩
theorem r_test (h : te σ H fun x H' => ∃ k, x = .bl k ∧ QT k H') : tTest te σ H QT := h
theorem r_tB (h : te σ H fun x H' => ∃ k, x = .bl k ∧ QT k H') : tB te σ H QT := h
theorem r_bl {b : Bool} {QB : Bool → Prop} (h : QB b) : ∃ k, V.bl b = .bl k ∧ QB k := ⟨b, rfl, h⟩
theorem r_if (h : tt σ H fun b H1 => if b = true then t D σ H1 else u D σ H1) : tIfS tt t u D σ H := h
theorem r_ret (h : te σ H D.rt) : tRet te D σ H := h
theorem r_retN (h : D.rt .non H) : tRetN D σ H := h
theorem r_drop (h : te σ H fun _ H1 => D.nx σ H1) : tDrop te D σ H := h
theorem r_cb {r : List V → Hp → VK → Prop} (h : tA σ H fun vs H1 => r vs H1 Q) : tCB r tA σ H Q := h
theorem r_cons (h : te σ H fun x H1 => tA σ H1 fun xs H2 => QA (x :: xs) H2) : tCons te tA σ H QA := h
theorem r_nil (h : QA [] H) : tNil σ H QA := h
theorem r_lst (h : tA σ H fun xs H1 => xs.length ≤ sizeLine ∧ ∀ p, H1 p = none → Q (.ref p) (upd H1 p (.lst xs))) : tLst tA σ H Q := h
theorem r_tup (h : tA σ H fun xs H1 => xs.length ≤ sizeLine ∧ ∀ p, H1 p = none → Q (.ref p) (upd H1 p (.tup xs))) : tTup tA σ H Q := h
theorem r_and (h : tt σ H fun c H1 => if c = true then tt' σ H1 QT else QT false H1) : tAnd tt tt' σ H QT := h
theorem r_or (h : tt σ H fun c H1 => if c = true then QT true H1 else tt' σ H1 QT) : tOr tt tt' σ H QT := h
theorem r_not (h : tt σ H fun c H1 => QT (!c) H1) : tNot tt σ H QT := h
theorem r_andV (h : ta σ H fun x H1 => ∃ c, x = .bl c ∧ if c = true then tb σ H1 Q else Q (.bl false) H1) : tAndV ta tb σ H Q := h
theorem r_orV (h : ta σ H fun x H1 => ∃ c, x = .bl c ∧ if c = true then Q (.bl true) H1 else tb σ H1 Q) : tOrV ta tb σ H Q := h
theorem r_notV (h : ta σ H fun x H1 => ∃ c, x = .bl c ∧ Q (.bl (!c)) H1) : tNotV ta σ H Q := h
theorem r_call {sp : Sp} {dvs : List V} {E : XK} (h : tA σ H fun vs H1 => sp (vs ++ dvs) H1 Q E) : tCall sp dvs E tA σ H Q := h
theorem r_bm {T : String} {r : V → List V → Hp → VK → Prop} (h : te σ H fun x H1 => tyV K T x H1 ∧ tA σ H1 fun xs H2 => r x xs H2 Q) : tBM K T r te tA σ H Q := h
theorem r_bm0 {T : String} {r : V → List V → Hp → VK → Prop} (h : te σ H fun x H1 => tyV K T x H1 ∧ r x [] H1 Q) : tBM0 K T r te σ H Q := h
theorem r_sl {r : V → Option Int → Option Int → Hp → VK → Prop} {tl th : TO} (h : te σ H fun x H1 => tl σ H1 fun l H2 => th σ H2 fun u H3 => r x l u H3 Q) : tSl r te tl th σ H Q := h
theorem r_part {QO : Option Int → Hp → Prop} (h : te σ H fun x H1 => ∃ i, x = .int i ∧ QO (some i) H1) : tPart te σ H QO := h
theorem r_nopart {QO : Option Int → Hp → Prop} (h : QO none H) : tNoPart σ H QO := h
theorem r_exI {QB : Int → Prop} {n : Int} (h : QB n) : ∃ i, V.int n = .int i ∧ QB i := ⟨n, rfl, h⟩
theorem r_len {p : Addr} (s : SqL K H p xs) (k : Q (.int xs.length) H) : rLen K [.ref p] H Q := ⟨p, xs, rfl, .inl s, k⟩
theorem r_lenT {p : Addr} (s : SqT K H p xs) (k : Q (.int xs.length) H) : rLen K [.ref p] H Q := ⟨p, xs, rfl, .inr s, k⟩
theorem r_lenS {z : Str} (s : z.length ≤ sizeLine) (k : Q (.int z.length) H) : rLenS [.str z] H Q := ⟨z, rfl, s, k⟩
theorem r_listof {p : Addr} (s : SqL K H p xs) (k : ∀ l, H l = none → Q (.ref l) (upd H l (.lst xs))) : rListOf K [.ref p] H Q := ⟨p, xs, rfl, .inl s, k⟩
theorem r_min {a b : Int} (k : Q (.int (if b < a then b else a)) H) : rMin [.int a, .int b] H Q := ⟨a, b, rfl, k⟩
theorem r_max {a b : Int} (k : Q (.int (if b > a then b else a)) H) : rMax [.int a, .int b] H Q := ⟨a, b, rfl, k⟩
theorem r_abs {a : Int} (k : Q (.int (if a < 0 then -a else a)) H) : rAbs [.int a] H Q := ⟨a, rfl, k⟩
theorem r_intB {b : Bool} (k : Q (.int (if b then 1 else 0)) H) : rInt [.bl b] H Q := .inr ⟨b, rfl, k⟩
theorem r_intI {a : Int} (k : Q (.int a) H) : rInt [.int a] H Q := .inl ⟨a, rfl, k⟩
theorem r_ixL {p : Addr} {n : Int} (s : SqL K H p xs) (e : atI xs n = some v) (k : Q v H) : rIxL K (.ref p) (.int n) H Q := ⟨p, xs, n, v, rfl, rfl, s, e, k⟩
theorem r_setL {p : Addr} {n : Int} {j : Nat} {QH : Hp → Prop} (s : H p = some (.lst xs)) (e : ixN xs.length n = some j) (k : QH (upd H p (.lst (xs.set j v)))) : rSetL (.ref p) (.int n) v H QH := ⟨p, xs, n, j, rfl, rfl, s, e, k⟩
theorem r_append {l : Addr} {y : V} (s : H l = some (.lst xs)) (z : xs.length < sizeLine) (k : Q .non (upd H l (.lst (xs ++ [y])))) : rAppend (.ref l) [y] H Q := ⟨l, xs, y, rfl, rfl, s, z, k⟩
theorem r_cat {l b : Addr} {zs : List V} (s : H l = some (.lst xs)) (s' : H b = some (.lst zs)) (z : xs.length + zs.length ≤ sizeLine) (k : ∀ p, H p = none → Q (.ref p) (upd H p (.lst (xs ++ zs)))) : rCat (.ref l) (.ref b) H Q := ⟨l, b, xs, zs, rfl, rfl, s, s', z, k⟩
theorem r_gsub {to ti : TE} {ts : TSet} {Q : St → Hp → Prop} (h : to σ H fun o H1 => ti σ H1 fun i H2 => ts o i v H2 fun H3 => Q σ H3) : gSub to ti ts v σ H Q := h
theorem ty_lst {p : Addr} (s : H p = some (.lst xs)) : tyV K "list" (.ref p) H := .inl ⟨rfl, _, SqL.of s⟩
/-- a statement, its ways joined at P -/
def tCut (t : TS) : TS := fun D σ H => ∃ P : St → Hp → Prop, (∀ σ H, P σ H → D.nx σ H) ∧ t { D with nx := P } σ H
theorem ps_cut {st : Stmt} (h : PS X st t) : PS X st (tCut t) := by
  intro pins s σ H D I hw
  obtain ⟨P, hP, hw⟩ := hw
  refine thn (h pins s σ H _ I hw) fun f s1 q => ?_
  cases f with
  | next => obtain ⟨σ', H', I', q⟩ := q; exact ⟨σ', H', I', hP _ _ q⟩
  | brk => exact q
  | cont => exact q
  | ret v => exact q
theorem r_cut (P : St → Hp → Prop) (h : t { D with nx := P } σ H) (k : ∀ σ H, P σ H → D.nx σ H) : tCut t D σ H := ⟨P, k, h⟩
theorem r_while {c : TT} {tb : TS} (W : Nat → St → Hp → Prop) {m0 : Nat} (h0 : W m0 σ H) (hs : ∀ m σ H, W m σ H → c σ H fun b H1 => if b = true then (∃ N : St → Hp → Prop, (∀ σ' H', N σ' H' → ∃ m', m' < m ∧ W m' σ' H') ∧ tb { D with nx := N, ct := N, bk := D.nx } σ H1) else D.nx σ H1) : tWhile c tb D σ H := ⟨W, ⟨m0, h0⟩, hs⟩
theorem r_ite {p A B : Prop} {inst : Decidable p} (h1 : p → A) (h2 : ¬ p → B) : if decide p = true then A else B := by
  by_cases h : p
  · rw [decide_eq_true h]; exact h1 h
  · rw [decide_eq_false h]; exact h2 h
theorem r_iteN {p A B : Prop} {inst : Decidable p} (h1 : ¬ p → A) (h2 : p → B) : if (!decide p) = true then A else B := by
  by_cases h : p
  · rw [decide_eq_true h]; exact h2 h
  · rw [decide_eq_false h]; exact h1 h
theorem r_iteI {a b : Int} {A B : Prop} (h1 : a = b → A) (h2 : a ≠ b → B) : if decide (V.int a = V.int b) = true then A else B :=
  r_ite (fun h => h1 (V.int.inj h)) fun h => h2 fun e => h (by rw [e])
theorem r_iteNI {a b : Int} {A B : Prop} (h1 : a ≠ b → A) (h2 : a = b → B) : if (!decide (V.int a = V.int b)) = true then A else B :=
  r_iteN (fun h => h1 fun e => h (by rw [e])) fun h => h2 (V.int.inj h)
theorem Same.upd {H H' : Hp} {r : Addr} (g : Same H H') (h : H r = none) (o : HO) : Same H (upd H' r o) := fun b u q => by
  rw [upd_ne (ne_of_none q h)]; exact g b u q
theorem upd_self {H : Hp} {a : Addr} {o : HO} (h : H a = some o) : upd H a o = H := by
  funext b; unfold L2.upd; split
  · rename_i e; rw [e, h]
  · rfl
theorem at_int {ns : List Int} {k : Int} (h0 : 0 ≤ k) (h : k < (ns.length : Int)) : atI (ns.map V.int) k = some (.int (ns.getD k.toNat 0)) := by
  have hk : k.toNat < ns.length := by omega
  have ek : k = ((k.toNat : Nat) : Int) := by omega
  have q : atI (ns.map V.int) ((k.toNat : Nat) : Int) = some (.int (ns.getD k.toNat 0)) := atI_nat (by
    rw [List.getElem?_map, List.getElem?_eq_getElem hk, List.getD_eq_getElem?_getD, List.getElem?_eq_getElem hk]; rfl)
  rw [← ek] at q; exact q
theorem ix_at {n : Nat} {k : Int} (h0 : 0 ≤ k) (h : k < (n : Int)) : ixN n k = some k.toNat := by
  unfold ixN; rw [if_pos h0, if_pos h]
theorem map_at {ns : List Int} {i : Nat} {x : V} (h : (ns.map V.int)[i]? = some x) : ∃ v, x = .int v ∧ ns.drop i = v :: ns.drop (i + 1) ∧ i < ns.length ∧ ns.getD i 0 = v := by
  rw [List.getElem?_map] at h
  cases e : ns[i]? with
  | none => rw [e] at h; cases h
  | some v =>
    rw [e] at h; cases h
    obtain ⟨hi, e'⟩ := List.getElem?_eq_some_iff.mp e
    exact ⟨v, rfl, by rw [List.drop_eq_getElem_cons hi, e'], hi, by rw [List.getD_eq_getElem?_getD, e]; rfl⟩
theorem cut_ints (ns : List Int) (lo hi : Option Int) : ∃ ms : List Int, cutV (ns.map V.int) lo hi = ms.map V.int ∧ ms.length ≤ ns.length ∧ ms = (ns.drop (HT.sIx ns.length 0 lo)).take (HT.sIx ns.length ns.length hi - HT.sIx ns.length 0 lo) := by
  refine ⟨_, ?_, ?_, rfl⟩
  · unfold cutV; rw [List.length_map, List.map_take, List.map_drop]
  · rw [List.length_take, List.length_drop]; omega
theorem rep_int (k : Nat) (n : Int) : (List.replicate k [V.int n]).flatten = (List.replicate k n).map V.int := by
  induction k with
  | zero => rfl
  | succ k ih => rw [List.replicate_succ, List.flatten_cons, ih, List.replicate_succ]; rfl
theorem r_rep1 {l : Addr} {n k : Int} (s : H l = some (.lst [.int n])) (h1 : -(2 ^ 62) < k) (h2 : k ≤ 1000) (q : ∀ p, H p = none → Q (.ref p) (upd H p (.lst ((List.replicate k.toNat n).map V.int)))) : rRep (.ref l) (.int k) H Q :=
  ⟨l, k, _, rfl, rfl, s, by omega, by omega, by rw [List.length_singleton]; exact Nat.le_of_lt (small1000 (by omega)), by rw [rep_int]; exact q⟩
theorem r_eqL {a b : Addr} {ns ms : List Int} (s1 : SqL K H a (ns.map V.int)) (s2 : SqL K H b (ms.map V.int)) (k : Q (.bl (decide (ns = ms))) H) : rEqL K (.ref a) (.ref b) H Q := ⟨a, b, ns, ms, rfl, rfl, s1, s2, k⟩
theorem r_neL {a b : Addr} {ns ms : List Int} (s1 : SqL K H a (ns.map V.int)) (s2 : SqL K H b (ms.map V.int)) (k : Q (.bl (!decide (ns = ms))) H) : rNeL K (.ref a) (.ref b) H Q := ⟨a, b, ns, ms, rfl, rfl, s1, s2, k⟩
theorem r_isi {x : V} {ty : Value} {n : String} {b : Bool} (t : TyOf K H x ty) (e : PySem.W.kitOne K ty (.type n) = some b) (k : Q (.bl b) H) : rIsi K [x, .ty n] H Q := ⟨x, ty, n, b, rfl, t, e, k⟩
theorem r_slL {a : Addr} {lo hi : Option Int} (s : SqL K H a xs) (k : ∀ p, H p = none → Q (.ref p) (upd H p (.lst (cutV xs lo hi)))) : rSlL K (.ref a) lo hi H Q := ⟨a, xs, rfl, s, k⟩
/-- fresh lists -/
theorem same_new {H : Hp} {p : Addr} (h : H p = none) (o : HO) : Same H (upd H p o) := fun b u q => by rw [upd_ne (ne_of_none q h)]; exact q
theorem SqL.keep {H H' : Hp} {a r : Addr} {o : HO} (s : SqL K H a xs) (h : H r = none) (g : Same H H') : SqL K (upd H' r o) a xs := by
  rcases s with (s | ⟨ob, s⟩) | s
  · exact .inl (.inl (by rw [upd_ne (ne_of_none s h)]; exact g _ _ s))
  · exact .inl (.inr ⟨ob, by rw [upd_ne (ne_of_none s h)]; exact g _ _ s⟩)
  · exact .inr s
end
end L2

set_option Elab.async false
set_option linter.all false
set_option maxRecDepth 100000
set_option autoImplicit false
namespace L2
open PySem PySem.Spec PyProof.Rows

/-! ### a comprehension [e for t in xs (if c)] : like a call, its block over the iterator -/
abbrev compX (X : Cx) (N' : List Str) (scope : Scope) (cl : List (Str × Addr)) (C : Addr) (s3 : Shared) (H3 : Hp) (fp : List Addr) : Cx :=
  { X with N := N', s₀ := s3, H₀ := H3, env := compEnvC scope cl C X.env, outer := X.stack, ex := fp, fn := fun _ => false, pn := [], xe := fun _ _ => False }
/-- what is known of the block's names: N' its names, js where a captured one stands in the def -/
structure CompOk (X : Cx) (N' : List Str) (js : List (Option Nat)) (scope : Scope) (cl : List (Str × Addr)) : Prop where
  kind : scope.kind = .function
  names : ∀ y ∈ scope.names, y.2 = .local → scope.names.lookup y.1 = some .local
  nocell : ∀ y ∈ scope.names, y.2 ≠ .cell
  clos : closureFor scope X.env = pure cl
  sub : ∀ x c, cl.lookup x = some c → X.env.cells.lookup x = some c
  has : ∀ x, ((relabel scope X.env).names.lookup x = some .cell ∨ (relabel scope X.env).names.lookup x = some .free) → ∃ c, cl.lookup x = some c
  jlen : js.length = N'.length
  jof : ∀ (k : Nat) (x : Str) (j : Nat), N'[k]? = some x → js[k]? = some (some j) → X.N[j]? = some x ∧ (X.env.kindOf x = some .cell ∨ X.env.kindOf x = some .free) ∧ ((relabel scope X.env).names.lookup x = some .cell ∨ (relabel scope X.env).names.lookup x = some .free)
def compSt (js : List (Option Nat)) (σ : St) : St := js.map fun o => o.bind fun j => (σ[j]?).join

section
variable {X : Cx} {N' : List Str} {js : List (Option Nat)} {scope : Scope} {cl : List (Str × Addr)} {C : Addr} {pins : List (Addr × Obj)} {σ : St} {H : Hp} {s : Shared} {fp : List Addr}

theorem comp_start {h1 : Heap} {tk : Nat} {m1 : Str → Option Value} {ob : Obj} (I : Inv X pins σ H s) (O : CompOk X N' js scope cl) (hf : ∀ b ∈ fp, FpOk X pins H b) (hb : ∀ b ∈ fp, b < s.heap.objs.size)
    (hC : C = s.heap.objs.size) (hn : h1.Ns C m1) (hk : ∀ b o, s.heap.get? b = some o → h1.get? b = some o) : Inv (compX X N' scope cl C s H fp) [] (compSt js σ) H { s with heap := h1, toks := tk } := by
  have kd : (relabel scope X.env).kind = .function := O.kind
  have hfree : H C = none := by rw [hC]; exact I.hok.fresh (Nat.le_refl _)
  have cno : ∀ x c, cl.lookup x = some c → c ≠ C := fun x c e z => by
    obtain ⟨v, q⟩ := I.cell x c (O.sub x c e)
    have := q.lt
    rw [z, hC] at this; exact absurd this (Nat.lt_irrefl _)
  refine ⟨⟨I.ok.mod, kd, I.ok.glob, I.ok.blt, Nat.le_of_eq hC.symm, fun x y c h1 h2 => I.ok.inj x y c (O.sub x c h1) (O.sub y c h2), fun x hx => O.has x hx, fun x c h => (by cases h), I.ok.hd, I.ok.frames, .inl rfl,
      fun b hb' => ⟨?_, fun x c e => (hf b hb').2.2.2.2.1 x c (O.sub x c e)⟩, I.bs, Nat.le_trans I.ok.bsz I.sz, fun b o e hb' => ?_, fun b hb' hz => ?_, I.stack, I.stkFree⟩,
    rfl, I.bare, Un.kept hk, ⟨m1, hn, fun k x v e1 e2 e3 => ?_⟩, fun x c e => ?_, hfree, fun x c e => I.freeC x c (O.sub x c e), fun p hp => absurd (show p ∈ ([] : List (Addr × Obj)) from hp) (by simp), I.hok.kept hk, by unfold compSt; rw [List.length_map]; exact O.jlen⟩
  · intro z
    have := hb b hb'
    have z' : b = C := z
    rw [z', hC] at this; exact absurd this (Nat.lt_irrefl _)
  · rcases (hf b hb').2.2.2.1 with z | z
    · exact I.ok.noex b o e z
    · exact absurd (Nat.lt_of_lt_of_le (Heap.lt_size (I.ok.bs b o e).1) z) (Nat.lt_irrefl _)
  · have hz' : b ∈ frs X.stack := hz
    have hfs := (hf b hb').2.2.1
    have hl := (hf b hb').2.1
    rcases I.ok.stk with q | ⟨q, fr⟩
    · rw [q] at hz'; exact hfs hz'
    · rw [q] at hz'
      unfold frs at hz'
      obtain ⟨env, he, hfe⟩ := List.mem_filterMap.mp hz'
      rcases List.mem_cons.mp he with rfl | he
      · rw [fr] at hfe; cases hfe; exact hl rfl
      · exact hfs (List.mem_filterMap.mpr ⟨env, he, hfe⟩)
  · unfold compSt at e2
    rw [List.getElem?_map] at e2
    cases ej : js[k]? with
    | none => rw [ej] at e2; cases e2
    | some oj =>
      rw [ej] at e2
      cases oj with
      | none => simp at e2
      | some j =>
        have e2' : (σ[j]?).join = some v := by simpa using e2
        have e2'' : σ[j]? = some (some v) := by
          cases q : σ[j]? with
          | none => rw [q] at e2'; simp at e2'
          | some z => rw [q] at e2'; simp at e2'; rw [e2']
        obtain ⟨g1, g2, g3⟩ := O.jof k x j e1 ej
        obtain ⟨m, hm, hl⟩ := I.loc
        have vis : Vis X.env.scope x := by rcases g2 with g | g; exact .inr (.inl g); exact .inr (.inr g)
        obtain ⟨u, r, lk⟩ := hl j x v g1 e2'' vis
        refine ⟨u, r, .inr ⟨g3, ?_⟩⟩
        obtain ⟨c, hc⟩ := O.has x g3
        have hc' := O.sub x c hc
        rcases lk with ⟨kl, _⟩ | ⟨_, c', e', ic⟩
        · rcases g2 with g | g <;> (rw [g] at kl; cases kl)
        · rw [hc'] at e'; cases e'
          refine ⟨c, hc, ?_⟩
          obtain ⟨oc, h1', h2'⟩ := ic
          exact ⟨oc, hk _ _ h1', h2'⟩
  · obtain ⟨v, ic⟩ := I.cell x c (O.sub x c e)
    obtain ⟨oc, h1', h2'⟩ := ic
    exact ⟨v, oc, hk _ _ h1', h2'⟩

/-- behind the block -/
theorem comp_end {s' : Shared} {σ' : St} {H' : Hp} {pl : List (Addr × Obj)} {h2 : Heap} (I : Inv X pins σ H s) (hf : ∀ b ∈ fp, FpOk X pins H b) (hC : C = s.heap.objs.size) (J : Inv (compX X N' scope cl C s H fp) pl σ' H' s')
    (hs : ∀ b, b ≠ C → h2.get? b = s'.heap.get? b) : Inv X pins σ H' { s' with heap := h2 } := by
  have lt : ∀ b o, s.heap.get? b = some o → b ≠ C := fun b o e z => by
    have := Heap.lt_size e
    rw [z, hC] at this; exact absurd this (Nat.lt_irrefl _)
  have u : Un (frs X.stack) fp H H' s.heap h2 := ⟨fun b o e n hb hx => (hs b (lt b o e)).trans (J.base.keep b o e n hb hx),
    fun b o e n hb hx => by obtain ⟨sl, q⟩ := J.base.slot b o e n hb hx; exact ⟨sl, (hs b (lt b o e)).trans q⟩, J.base.free,
    fun b o e hx => by obtain ⟨o', q⟩ := J.base.there b o e hx; exact ⟨o', (hs b (lt b o e)).trans q⟩, J.base.tups, J.base.frzs, J.base.tbls⟩
  have hok : HOk X.prog X.w H' h2 := fun a o e => (J.hok a o e).stay (fun b v hb q => by
    refine (hs b ?_).trans q
    rintro rfl
    have jf : H' b = none := J.free
    rcases hb with z | z
    · rw [z] at jf; rw [e] at jf; cases jf
    · rw [z] at jf; cases jf) (fun b q => q) fun b xs q => q
  exact I.call' (s' := { s' with heap := h2 }) (ch := fp) J.os u hok J.bare fun b hb => ⟨(hf b hb).2.2.2.1, (hf b hb).2.1, (hf b hb).2.2.2.2.1, (hf b hb).2.2.2.2.2⟩
end

/-- the reading: D the new list; W i m σ ys H: at turn i, with ys in it -/
def compW (J : It) (g : TG) (tt : TT) (te : TE) (D : Addr) (σ : St) (H1 : Hp) (F : Hp → Prop) : Prop :=
  ∃ W : Nat → Nat → St → List V → Hp → Prop, (∃ m, W 0 m σ [] (upd H1 D (.lst []))) ∧ ∀ i m σ' ys H', W i m σ' ys H' → H' D = some (.lst ys) ∧ ys.length < sizeLine ∧
    ((J.stop i H' ∧ F H') ∨ (J.go i H' ∧ ∀ x H2, J.yld i H' x H2 → g x σ' H2 fun σ2 H3 => tt σ2 H3 fun ok H4 =>
      if ok = true then te σ2 H4 fun v H5 => H5 D = some (.lst ys) ∧ ∃ m', m' < m ∧ W (i + 1) m' σ2 (ys ++ [v]) (upd H5 D (.lst (ys ++ [v]))) else ∃ m', m' < m ∧ W (i + 1) m' σ2 ys H4))
def tComp (wi : TI) (g : TG) (tt : TT) (te : TE) (js : List (Option Nat)) : TE := fun σ H Q => wi σ H fun J H1 => ∀ D, H1 D = none → compW J g tt te D (compSt js σ) H1 fun H' => Q (.ref D) H'
def tTrue : TT := fun _ H Q => Q true H

/-- the tests of a clause: none or one -/
def PIfs (X : Cx) (ifs : List Expr) (t : TT) : Prop :=
  ∀ (pins : List (Addr × Obj)) (s : Shared) (σ : St) (H : Hp) (Q : Bool → Hp → Prop), Inv X pins σ H s → t σ H Q →
    wpAny (model X.prog X.w) X.A (forIn ifs true fun c r => if r = true then do let ok ← isTrue c X.env (eval c X.env); pure (ForInStep.yield ok) else pure (ForInStep.yield r)) (TP X pins σ Q) X.xe s
theorem pifs_nil {X : Cx} : PIfs X [] tTrue := fun pins s σ H Q I h => by
  rw [List.forIn_nil]; exact wpAny_pure ⟨H, I, h⟩
theorem pifs_one {X : Cx} {c : Expr} {t : TT} (hc : PT X c t) : PIfs X [c] t := fun pins s σ H Q I h => by
  rw [List.forIn_cons]
  refine wpAny_bind ?_
  rw [if_pos rfl]
  refine wpAny_bind (thn (hc pins s σ H Q I h) fun ok s1 q => wpAny_pure ?_)
  show wpAny _ _ (forIn [] ok _) _ _ s1
  rw [List.forIn_nil]; exact wpAny_pure q

section
variable {X : Cx} {N' : List Str} {js : List (Option Nat)} {scope : Scope} {cl : List (Str × Addr)} {tg iter elt : Expr} {ifs : List Expr} {wi : TI} {g : TG} {tt : TT} {te : TE} {pos : Pos}

theorem comp_loop {pins : List (Addr × Obj)} {σ : St} {H1 : Hp} {s2 : Shared} {it : Addr} {fp : List Addr} {tn : Nat → Heap → Prop} {J : It} {F : Addr → Hp → Prop} {E : Value → Shared → Prop} {PP : Value → Addr → Result → Shared → Prop} (hc : X.calm = true) (O : CompOk X N' js scope cl)
    (hg : ∀ C s H fp, PG (compX X N' scope cl C s H fp) tg g) (hi : ∀ C s H fp, PIfs (compX X N' scope cl C s H fp) ifs tt) (he : ∀ C s H fp, PE (compX X N' scope cl C s H fp) elt te)
    (I2 : Inv X pins σ H1 s2) (T : Turn X.prog X.w X.K tg J fp it tn) (st2 : tn 0 s2.heap) (f2 : ∀ b ∈ fp, FpOk X pins H1 b)
    (q : ∀ D, H1 D = none → compW J g tt te D (compSt js σ) H1 (F D))
    (fin : ∀ (D C : Addr) (H' : Hp) (s' : Shared), F D H' → (∃ m, s'.heap.Ns C m) → FpOk X pins H' C → (∀ h2, Heap.SameBut C s'.heap h2 → Inv X pins σ H' { s' with heap := h2 }) → PP (.ref D) C (.ok .next) s') :
    wpAny (model X.prog X.w) X.A (newList []) (fun acc s₃ => wpAny (model X.prog X.w) X.A (newFunctionEnv scope X.env.globals cl [] X.env.qual none .none (some X.env)) (fun cenv s₄ =>
      codeAny (model X.prog X.w) X.A (.compStart (.ListComp elt [⟨tg, iter, ifs, 0⟩] scope pos) 0 (.ref it) acc { cenv with scope := relabel scope X.env }) (PP acc cenv.locals) s₄) E s₃) E s2 := by
  refine wpAny_newObj_type ?_
  have fD : H1 s2.heap.objs.size = none := I2.fresh
  generalize hD : s2.heap.objs.size = D at fD
  have I3 : Inv X pins σ (upd H1 D (.lst [])) { s2 with heap := s2.heap.push { cls := .type "list", dict := none, data := .seq ([] : List Value).toArray } } := by
    rw [← hD]; exact I2.lnew (t' := s2.toks) .nil (Nat.zero_le _)
  have kD : ∀ b o, s2.heap.get? b = some o → (s2.heap.push { cls := .type "list", dict := none, data := .seq ([] : List Value).toArray }).get? b = some o := fun b o e => Heap.get?_push_of_some _ e
  have bD : ∀ b ∈ fp, b < s2.heap.objs.size := fun b hb => by obtain ⟨o, e, _⟩ := T.obj 0 _ st2 b hb; exact Heap.lt_size e
  have f3 : ∀ b ∈ fp, FpOk X pins (upd H1 D (.lst [])) b := fun b hb => by
    obtain ⟨a0, a1⟩ := f2 b hb
    refine ⟨?_, a1⟩
    rw [upd_ne (by rintro rfl; rw [← hD] at hb; exact absurd (bD _ hb) (Nat.lt_irrefl _))]; exact a0
  refine wpAny_newFunctionEnv O.nocell (by intro y hy; simp at hy) (fun h₁ hns₁ hsb₁ => ?_) O.kind
  dsimp only at hns₁ hsb₁ ⊢
  generalize hs3 : ({ s2 with heap := s2.heap.push { cls := .type "list", dict := none, data := .seq ([] : List Value).toArray } } : Shared) = s3 at I3
  have eh : s2.heap.push { cls := .type "list", dict := none, data := .seq ([] : List Value).toArray } = s3.heap := by rw [← hs3]
  have hss : ∀ (h : Heap) (t : Nat), ({ s2 with heap := h, toks := t } : Shared) = { s3 with heap := h, toks := t } := fun h t => by rw [← hs3]
  rw [eh] at hns₁ hsb₁ kD
  have k1 : ∀ b o, s3.heap.get? b = some o → h₁.get? b = some o := fun b o e => hsb₁.extBut b o (Nat.ne_of_lt (Heap.lt_size e)) (Heap.get?_push_of_some _ e)
  generalize hCC : s3.heap.objs.size = C at hns₁ hsb₁
  have b3 : ∀ b ∈ fp, b < s3.heap.objs.size := fun b hb => by
    obtain ⟨o, e, _⟩ := T.obj 0 _ st2 b hb
    exact Heap.lt_size (kD _ _ e)
  have J0 := comp_start (h1 := h₁) (tk := s2.toks + ([] : List (Str × Value)).length) (ob := { cls := .none, data := .fields #[] }) I3 O f3 b3 hCC.symm hns₁ k1
  have t0 : tn 0 h₁ := T.keep 0 _ _ st2 fun b hb o e => k1 _ _ (kD _ _ e)
  obtain ⟨W, ⟨m0, w0⟩, turn⟩ := q D fD
  have fr0 : ∀ b ∈ fp, upd H1 D (.lst []) b = none := fun b hb => (f3 b hb).1
  have loop : ∀ s₄ : Shared, s₄ = { s3 with heap := h₁, toks := s2.toks + ([] : List (Str × Value)).length } →
      codeAny (model X.prog X.w) X.A (.compLoop (.ListComp elt [⟨tg, iter, ifs, 0⟩] scope pos) 0 (.ref it) (.ref D) (compEnvC scope cl C X.env)) (PP (.ref D) C) s₄ := by
    rintro s₄ rfl
    refine codeAny_loop rfl (fun n s' => ∃ i σ' ys H', Inv (compX X N' scope cl C s3 (upd H1 D (.lst [])) fp) [] σ' H' s' ∧ tn i s'.heap ∧ (∀ b ∈ fp, H' b = none) ∧ W i n σ' ys H') (fun n s5 hI => ?_) m0 ⟨0, _, [], _, J0, t0, fr0, w0⟩
    obtain ⟨i, σ5, ys, H5, I5, t5, fr5, w5⟩ := hI
    show wpAny _ X.A ((compTurn (.ListComp elt [⟨tg, iter, ifs, 0⟩] scope pos) 0 (.ref it) (.ref D) (compEnvC scope cl C X.env)).onRaise (fun x => do noteFrame x (compEnvC scope cl C X.env); theTreesLotGoes x)) _ _ s5
    refine wpAny_noted ?_
    rw [compTurn_list]
    have stat : ∀ {H' : Hp}, (∀ b ∈ fp, H' b = none) → ∀ b ∈ fp, FpOk (compX X N' scope cl C s3 (upd H1 D (.lst [])) fp) [] H' b := fun hn b hb => by
      obtain ⟨a0, a1, a2, a3, a4, a5⟩ := f3 b hb
      refine ⟨hn b hb, (I5.ok.exf b hb).1, I5.ok.exfs b hb, .inl hb, (I5.ok.exf b hb).2, fun p hp => absurd (show p ∈ ([] : List (Addr × Obj)) from hp) (by simp)⟩
    obtain ⟨eD, lD, way⟩ := turn i n σ5 ys H5 w5
    refine wpAny_bind (wpAny_standAt (wpAny_bind ?_))
    rcases way with ⟨stop, fH⟩ | ⟨go, step⟩
    · refine thn (T.done (compX X N' scope cl C s3 (upd H1 D (.lst [])) fp) rfl rfl rfl hc i [] s5 σ5 H5 _ I5 (stat fr5) t5 stop) fun r s6 ⟨hr, I6⟩ => ?_
      subst hr
      refine wpAny_pure ?_
      obtain ⟨mC, nC, _⟩ := I6.loc
      exact fin D C H5 s6 fH ⟨mC, nC⟩ (I3.fpOk (Nat.le_of_eq hCC) I6.free) fun h2 hs => comp_end I3 f3 hCC.symm I6 hs.2
    · refine thn (T.item (compX X N' scope cl C s3 (upd H1 D (.lst [])) fp) rfl rfl rfl hc i [] s5 σ5 H5 _ I5 (stat fr5) t5 go) fun r s6 ⟨u, hr, h6⟩ => ?_
      subst hr
      refine wpAny_bind (thn h6 fun _ s7 ⟨x, H7, I7, r7, y7, t7, fr7⟩ => ?_)
      have I7' := I7.pinned (stat fr7) (T.obj _ _ t7)
      have up : ∀ {Q : Unit → Shared → Prop} {α : Type} {tr : Sem α} {QQ : α → Shared → Prop} {EE : Value → Shared → Prop} {ss : Shared}, wpAny (model X.prog X.w) X.A tr QQ (fun _ _ => False) ss → wpAny (model X.prog X.w) X.A tr QQ EE ss :=
        fun h => wpAny_mono h (fun _ _ z => z) fun _ _ z => z.elim
      have again : ∀ {σ8 : St} {H8 : Hp} {s8 : Shared} {ys' : List V}, Inv (compX X N' scope cl C s3 (upd H1 D (.lst [])) fp) ([] ++ pinsAt fp s7.heap) σ8 H8 s8 → (∃ m', m' < n ∧ W (i + 1) m' σ8 ys' H8) →
          ∃ m, m < n ∧ ∃ i σ' ys H', Inv (compX X N' scope cl C s3 (upd H1 D (.lst [])) fp) [] σ' H' s8 ∧ tn i s8.heap ∧ (∀ b ∈ fp, H' b = none) ∧ W i m σ' ys H' := fun {σ8 H8 s8 ys'} I8 ⟨m', hm, w8⟩ => by
        refine ⟨m', hm, i + 1, σ8, ys', H8, I8.unpinned, T.keep _ _ _ t7 fun b hb o e => (I8.pin (b, o) (List.mem_append_right _ (List.mem_append_right _ (mem_pinsAt hb e)))).1, fun b hb => ?_, w8⟩
        obtain ⟨o, e, d⟩ := T.obj _ _ t7 b hb
        exact (I8.pin (b, o) (List.mem_append_right _ (List.mem_append_right _ (mem_pinsAt hb e)))).2.1
      refine wpAny_bind (up (Q := fun _ _ => True) (thn (hg C s3 _ fp _ s7 σ5 H7 x u _ I7' r7 (step x H7 y7)) fun _ s8 ⟨σ8, H8, I8, q8⟩ => ?_))
      refine wpAny_bind (up (Q := fun _ _ => True) (thn (hi C s3 _ fp _ s8 σ8 H8 _ I8 q8) fun ok s9 ⟨H9, I9, q9⟩ => ?_))
      cases ok with
      | false =>
        rw [if_neg Bool.false_ne_true] at q9
        exact wpAny_pure ⟨rfl, again I9 q9⟩
      | true =>
        rw [if_pos rfl] at q9
        refine wpAny_bind (wpAny_bind (up (Q := fun _ _ => True) (thn (he C s3 _ fp _ s9 σ8 H9 _ I9 q9) fun uv s10 ⟨v, H10, I10, r10, eD10, q10⟩ => ?_)))
        refine wpAny_bind (up (Q := fun _ _ => True) (thn (mt_append (X := compX X N' scope cl C s3 (upd H1 D (.lst [])) fp) _ s10 σ8 H10 (.ref D) [v] (.ref D) [uv] (fun _ H11 => ∃ m', m' < n ∧ W (i + 1) m' σ8 (ys ++ [v]) H11) I10 rfl (.cons r10 .nil) ⟨D, ys, v, rfl, rfl, eD10, lD, q10⟩) fun _ s11 ⟨_, H11, I11, _, q11⟩ => ?_))
        exact wpAny_pure (wpAny_pure ⟨rfl, again I11 q11⟩)
  rw [show ({ s2 with heap := h₁, toks := s2.toks + ([] : List (Str × Value)).length } : Shared) = { s3 with heap := h₁, toks := s2.toks + ([] : List (Str × Value)).length } from hss _ _]
  have eC : (s2.heap.push { cls := .type "list", dict := none, data := .seq ([] : List Value).toArray }).objs.size = C := by rw [eh]; exact hCC
  rw [eC]
  exact codeAny_compStart_list (loop _ rfl) (T.self X.A 0 _ _ _ t0 (loop _ rfl))

theorem pe_comp (hc : X.calm = true) (O : CompOk X N' js scope cl) (hit : PI X tg iter wi) (hg : ∀ C s H fp, PG (compX X N' scope cl C s H fp) tg g) (hi : ∀ C s H fp, PIfs (compX X N' scope cl C s H fp) ifs tt) (he : ∀ C s H fp, PE (compX X N' scope cl C s H fp) elt te)
    (hs : ∀ x, foldedSetIterable iter X.env x = pure x := by intro _; rfl) : PE X (.ListComp elt [⟨tg, iter, ifs, 0⟩] scope pos) (tComp wi g tt te js) := by
  intro pins s σ H Q I h
  rw [eval_ListComp]
  refine wpAny_comprehension_free (use := none) rfl hs O.clos O.kind O.names (thn (hit pins s σ H _ I h) fun v s1 h1 => thn h1 fun itv s2 h2 => ?_)
  obtain ⟨it, fp, tn, J, H2, e, I2, T, st2, f2, q⟩ := h2
  subst e
  exact comp_loop (PP := fun acc C => compPost (model X.prog X.w) X.A X.xe none (EP X pins σ Q) acc C) (F := fun D H' => Q (.ref D) H') hc O hg hi he I2 T st2 f2 q
    fun D C H' s' fH hn _ inv => by
      obtain ⟨m, hm⟩ := hn
      exact ⟨m, hm, fun h' hs' => ⟨.ref D, H', inv h' hs', rfl, fH⟩⟩
/-- name = [..] -/
theorem ps_setComp {i : Nat} {x : Str} {py spos : Pos} (hN : X.N.Nodup) (hix : X.N[i]? = some x) (hx : X.env.scope.names.lookup x = some .local) (hc : X.calm = true) (O : CompOk X N' js scope cl) (hit : PI X tg iter wi) (hg : ∀ C s H fp, PG (compX X N' scope cl C s H fp) tg g) (hi : ∀ C s H fp, PIfs (compX X N' scope cl C s H fp) ifs tt) (he : ∀ C s H fp, PE (compX X N' scope cl C s H fp) elt te)
    (hsw : swapsWith (.ListComp elt [⟨tg, iter, ifs, 0⟩] scope pos) (some (.Name x py)) spos.line X.env = pure true := by rfl)
    (hs : ∀ x, foldedSetIterable iter X.env x = pure x := by intro _; rfl) : PS X (.Assign [.Name x py] (.ListComp elt [⟨tg, iter, ifs, 0⟩] scope pos) spos) (tAsg (tComp wi g tt te js) (gName i)) := by
  intro pins s σ H D0 I h
  rw [exec_Assign_Name_used _ _ _ _ hsw]
  refine wpAny_bind (wpAny_standAt (wpAny_bind ?_))
  show wpAny _ X.A (do let _ ← comprehension (.ListComp elt [⟨tg, iter, ifs, 0⟩] scope pos) scope X.env _ (newList []) false (eval iter X.env) (some (assign (.Name x py) X.env))) _ _ s
  refine wpAny_bind (thn (wpAny_comprehension_free (use := some (assign (.Name x py) X.env)) (Q := fun _ s' => SP X pins D0 .next s') rfl hs O.clos O.kind O.names (thn (hit pins s σ H _ I h) fun v s1 h1 => thn h1 fun itv s2 h2 => ?_)) fun _ s' hq => wpAny_pure (wpAny_pure hq))
  obtain ⟨it, fp, tn, J, H2, e, I2, T, st2, f2, q⟩ := h2
  subst e
  refine comp_loop (PP := fun acc C => compPost (model X.prog X.w) X.A X.xe (some (assign (.Name x py) X.env)) (fun _ s' => SP X pins D0 .next s') acc C) (F := fun D H' => D0.nx (σ.set i (some (.ref D))) H') hc O hg hi he I2 T st2 f2 q
    fun D C H' s' fH hn fpC inv => ?_
  obtain ⟨m, hm⟩ := hn
  have I' : Inv X pins σ H' s' := inv s'.heap (Heap.SameBut.refl ..)
  refine wpAny_assign_Name (store_ok2 I' hN hix (.inl hx) (v := .ref D) rfl (fun s3 I3 ⟨a, sb, ha⟩ => ?_) (.inr hx))
  have hCa : C ≠ a := by
    rcases ha with rfl | z
    · exact fpC.2.1
    · exact fun z' => fpC.2.2.2.2.1 x a z z'.symm
  refine ⟨m, hm.sameBut sb hCa, fun h3 hs3 => ⟨_, H', ?_, fH⟩⟩
  exact I3.turned (t' := s3.toks) (fun b o hb e => (hs3.2 b hb).trans e) fpC.1 fpC.2.1 fpC.2.2.2.1 fpC.2.2.2.2.1 fpC.2.2.2.2.2
end
/-- no captured names -/
theorem comp_plain {X : Cx} {N' : List Str} {scope : Scope} (h1 : scope.kind = .function) (h2 : ∀ y ∈ scope.names, y.2 = .local → scope.names.lookup y.1 = some .local) (h3 : ∀ y ∈ scope.names, y.2 ≠ .cell) (h4 : ∀ y ∈ scope.names, y.2 ≠ .free) :
    CompOk X N' (List.replicate N'.length none) scope [] where
  kind := h1
  names := h2
  nocell := h3
  clos := closureFor_none h4
  sub := fun x c e => by cases e
  has := fun x hx => by
    have e : (relabel scope X.env).names = scope.names := map_eq_self fun y hy => by
      obtain ⟨n, k⟩ := y
      have : (k == NameKind.free) = false := by simpa using h4 _ hy
      simp [this]
    rw [e] at hx
    rcases hx with hx | hx
    · exact absurd rfl (h3 _ (PySem.mem_of_lookup hx))
    · exact absurd rfl (h4 _ (PySem.mem_of_lookup hx))
  jlen := List.length_replicate
  jof := fun k x j e1 e2 => by
    rw [List.getElem?_replicate] at e2
    split at e2 <;> cases e2
end L2

set_option Elab.async false
set_option linter.all false
set_option maxRecDepth 100000
namespace L2
open PySem PySem.Spec PyProof.Rows
theorem bt_len : bootBuiltins "len" = some (.builtin "len") := by decide +kernel
theorem bt_int : bootBuiltins "int" = some (.type "int") := by decide +kernel
theorem bt_bool : bootBuiltins "bool" = some (.type "bool") := by decide +kernel
theorem bt_str : bootBuiltins "str" = some (.type "str") := by decide +kernel
theorem bt_list : bootBuiltins "list" = some (.type "list") := by decide +kernel
theorem bt_tuple : bootBuiltins "tuple" = some (.type "tuple") := by decide +kernel
theorem bt_zip : bootBuiltins "zip" = some (.type "zip") := by decide +kernel
theorem bt_reversed : bootBuiltins "reversed" = some (.type "reversed") := by decide +kernel
theorem bt_range : bootBuiltins "range" = some (.type "range") := by decide +kernel
theorem bt_enumerate : bootBuiltins "enumerate" = some (.type "enumerate") := by decide +kernel
theorem bt_isinstance : bootBuiltins "isinstance" = some (.builtin "isinstance") := by decide +kernel
theorem bt_sum : bootBuiltins "sum" = some (.builtin "sum") := by decide +kernel
theorem bt_min : bootBuiltins "min" = some (.builtin "min") := by decide +kernel
theorem bt_max : bootBuiltins "max" = some (.builtin "max") := by decide +kernel
theorem bt_abs : bootBuiltins "abs" = some (.builtin "abs") := by decide +kernel

section
variable {X : Cx} {pins : List (Addr × Obj)} {σ : St} {H : Hp} {s : Shared}
/-- several records of an iterator turn -/
theorem Inv.moved {ch : List Addr} {h' : Heap} {t' : Nat} (I : Inv X pins σ H s) (hf : ∀ b ∈ ch, FpOk X pins H b) (k : ∀ b o, b ∉ ch → s.heap.get? b = some o → h'.get? b = some o) : Inv X pins σ H { s with heap := h', toks := t' } := by
  refine I.call' (s' := { s with heap := h', toks := t' }) (ch := ch) rfl ⟨fun b o e _ _ hx => k b o hx e, fun b o e _ _ hx => ⟨o.slots, k b o hx e⟩, fun _ _ _ n _ => n, fun b o e hx => ⟨o, k b o hx e⟩, fun _ _ q => q, fun _ _ _ q => q, fun b ps q => ⟨#[], by rw [q]; simp⟩⟩ ?_ I.bare
    fun b hb => ⟨(hf b hb).2.2.2.1, (hf b hb).2.1, (hf b hb).2.2.2.2.1, (hf b hb).2.2.2.2.2⟩
  refine fun a o e => (I.hok a o e).stay (fun b v hb q => k b v (fun hm => ?_) q) (fun _ q => q) fun _ _ q => q
  have n := (hf b hm).1
  rcases hb with z | z
  · rw [z, e] at n; cases n
  · rw [n] at z; cases z
end

/-! ### sum of a list of ints -/
theorem preSum_eq (f : Nat → Int) : ∀ (ns : List Int) (k : Nat), (∀ i v, ns[i]? = some v → f (k + i) = v) → ∀ n, n = ns.length → ∀ acc, preSum f k = acc → preSum f (k + n) = acc + ns.sum
  | [], k, _, n, hn, acc, h => by subst hn; simp [h]
  | v :: r, k, hf, n, hn, acc, h => by
    subst hn
    have h1 : preSum f (k + 1) = acc + v := by
      show preSum f k + f k = _
      rw [h]; have := hf 0 v (by simp); simp at this; rw [this]
    have := preSum_eq f r (k + 1) (fun i u e => by have := hf (i + 1) u (by simpa using e); rw [← this]; congr 1; omega) r.length rfl (acc + v) h1
    rw [show k + (v :: r).length = k + 1 + r.length by simp; omega, this, List.sum_cons]; omega
section
variable {X : Cx}
def rSum (K : PySem.W.Frag) : List V → Hp → VK → Prop := fun xs H Q => ∃ (p : Addr) (ns : List Int), xs = [.ref p] ∧ SqL K H p (ns.map V.int) ∧ Q (.int ns.sum) H
theorem r_sum {K : PySem.W.Frag} {H : Hp} {Q : VK} {p : Addr} {ns : List Int} (s : SqL K H p (ns.map V.int)) (k : Q (.int ns.sum) H) : rSum K [.ref p] H Q := ⟨p, ns, rfl, s, k⟩
theorem call_sum (hc : X.calm = true) : CallR X (.builtin "sum") (rSum X.K) := by
  intro pins s σ H xs us Q I r h
  obtain ⟨p, ns, rfl, hS, q⟩ := h
  obtain ⟨u, rfl, ru⟩ := vals1 r
  cases (show u = Value.ref p from ru)
  obtain ⟨its, rv, pl, hz⟩ := I.list hS
  have hi := intsAre_of rv
  refine call_sum_walkG (wpAny_pyIter_list pl.isList ?_)
  have hne : p ≠ s.heap.objs.size := by
    obtain ⟨o, e, _⟩ := pl.isList
    exact Nat.ne_of_lt (Heap.lt_size e)
  have W := Walks.list (prog := X.prog) (w := X.w) (A := X.A.in1) (I.ok.hd hc) s.heap.objs.size p hne its.toArray
  refine ⟨s.heap.objs.size, _, _, _, _, _, fun i => ns.getD i 0, rfl, W, ⟨⟨_, Heap.get?_push_size _ rfl, rfl, rfl⟩, pl.isList.push _⟩, fun b hb => ?_, fun i v hv => ?_, fun h' tk t' kk => ?_⟩
  · rw [Heap.size_push]
    rcases List.mem_cons.mp hb with rfl | hb
    · exact Nat.lt_succ_self _
    · rw [List.mem_singleton.mp hb]
      obtain ⟨o, e, _⟩ := pl.isList
      exact Nat.lt_succ_of_lt (Heap.lt_size e)
  · have hv' : its[i]? = some v := by simpa using hv
    exact ints_at hi hv'
  · have e : preSum (fun i => ns.getD i 0) its.toArray.size = ns.sum := by
      have hl := rv.length
      rw [List.length_map] at hl
      have := preSum_eq (fun i => ns.getD i 0) ns 0 (fun i v e => by simp [List.getD_eq_getElem?_getD, e]) ns.length rfl 0 rfl
      simp at this
      rw [List.size_toArray, ← hl]; exact this
    rw [e]
    refine ⟨.int ns.sum, H, ?_, ⟨_, rfl⟩, q⟩
    have I1 : Inv X pins σ H { s with heap := s.heap.push { cls := .type "list_iterator", data := .fields #[.ref p, .int 0 0] } } := I.kept (t' := s.toks) fun b o e => Heap.get?_push_of_some _ e
    have fp1 : ∀ b ∈ [s.heap.objs.size], FpOk X pins H b := fun b hb => by rw [List.mem_singleton.mp hb]; exact I.fpOk (Nat.le_refl _) I.fresh
    exact I1.moved (t' := tk) (ch := [s.heap.objs.size]) fp1 kk
where
  ints_at : ∀ {vs : List Value} {ns : List Int} {i : Nat} {v : Value}, IntsAre vs ns → vs[i]? = some v → ∃ t, v = .int (ns.getD i 0) t
  | _, _, _, _, .nil, e => by simp at e
  | _, _, 0, _, .cons n t h, e => by simp at e; subst e; exact ⟨t, rfl⟩
  | _, _, i + 1, v, .cons n t h, e => by
    obtain ⟨t', q⟩ := ints_at (i := i) (v := v) h (by simpa using e)
    exact ⟨t', by rw [q]; simp⟩
end

/-! ### zip of two lists -/
def Itz (l1 l2 : Addr) : It :=
  ⟨fun i H => ∃ xs ys x y, Rd H l1 (.lst xs) ∧ Rd H l2 (.lst ys) ∧ xs[i]? = some x ∧ ys[i]? = some y,
   fun i H v H' => ∃ x y p, v = .ref p ∧ H p = none ∧ H' = upd H p (.tup [x, y]) ∧ ∀ xs ys, Rd H l1 (.lst xs) → Rd H l2 (.lst ys) → xs[i]? = some x ∧ ys[i]? = some y,
   fun i H => ∃ xs ys, Rd H l1 (.lst xs) ∧ Rd H l2 (.lst ys) ∧ (xs.length ≤ i ∨ ys.length ≤ i)⟩
structure ZipD (z TI TO i1 i2 : Addr) : Prop where
  TIz : TI ≠ z
  TOz : TO ≠ z
  i1z : i1 ≠ z
  i2z : i2 ≠ z
  TITO : TI ≠ TO
  TIi1 : TI ≠ i1
  TIi2 : TI ≠ i2
  TOi1 : TO ≠ i1
  TOi2 : TO ≠ i2
  i12 : i1 ≠ i2
def tnz (z TI TO i1 i2 l1 l2 : Addr) (i : Nat) (h : Heap) : Prop := IsZip h z TI TO .none ∧ IsPair h TI (.ref i1) (.ref i2) ∧ (∃ a b, IsPair h TO a b) ∧ h.IsListIter i1 l1 i ∧ h.IsListIter i2 l2 i
theorem Rd.ne {H : Hp} {a b : Addr} {o : HO} (r : Rd H a o) (h : H b = none) : a ≠ b := by
  rcases r with r | ⟨ob, r⟩ <;> exact ne_of_none r h
theorem turn_zip {P : Program} {w : World} {K : PySem.W.Frag} {elts : List Expr} {x1} {pos : Pos} {z TI TO i1 i2 l1 l2 : Addr} (D : ZipD z TI TO i1 i2) : Turn P w K (.Tuple elts x1 pos) (Itz l1 l2) [z, TI, TO, i1, i2] z (tnz z TI TO i1 i2 l1 l2) where
  mem := by simp
  obj := fun i h st b hb => by
    obtain ⟨s1, s2, ⟨a, b', s3⟩, ⟨o4, e4, c4, d4⟩, ⟨o5, e5, c5, d5⟩⟩ := st
    simp only [List.mem_cons, List.not_mem_nil, or_false] at hb
    rcases hb with rfl | rfl | rfl | rfl | rfl
    · exact ⟨_, s1, fun v q => by cases q⟩
    · exact ⟨_, s2, fun v q => by cases q⟩
    · exact ⟨_, s3, fun v q => by cases q⟩
    · exact ⟨_, e4, fun v q => by rw [d4] at q; cases q⟩
    · exact ⟨_, e5, fun v q => by rw [d5] at q; cases q⟩
  keep := fun i h h' st k => by
    obtain ⟨s1, s2, ⟨a, b, s3⟩, s4, s5⟩ := st
    exact ⟨k z (by simp) _ s1, k TI (by simp) _ s2, ⟨a, b, k TO (by simp) _ s3⟩, s4.at fun o e => k i1 (by simp) o e, s5.at fun o e => k i2 (by simp) o e⟩
  item := by
    intro X hP hw hK hc i pins s σ H E I hf st hg
    subst hP hw hK
    obtain ⟨s1, s2, ⟨a, b, s3⟩, s4, s5⟩ := st
    obtain ⟨xs, ys, x, y, r1, r2, hx, hy⟩ := hg
    obtain ⟨its, rv, p, hz⟩ := I.list (X := X) (.inl r1)
    obtain ⟨its2, rv2, p2, hz2⟩ := I.list (X := X) (.inl r2)
    obtain ⟨u, hu, ru⟩ := rv.get hx
    obtain ⟨u2, hu2, ru2⟩ := rv2.get hy
    have fz := hf z (by simp)
    have fTI := hf TI (by simp)
    have fTO := hf TO (by simp)
    have f1 := hf i1 (by simp)
    have f2 := hf i2 (by simp)
    have A : ZipApart z TI TO i1 i2 l1 l2 := ⟨D.TIz, D.TOz, D.i1z, D.i2z, D.TITO, D.TIi1, D.TIi2, D.TOi1, D.TOi2, D.i12, r1.ne fz.1, r1.ne fTO.1, r1.ne f1.1, r1.ne f2.1, r2.ne fz.1, r2.ne fTO.1, r2.ne f1.1, r2.ne f2.1⟩
    refine wpAny_pyNext_zip_item A s1 s2 s3 s4 s5 p.isList p2.isList (x := u) (y := u2) (by simpa using hu) (by simpa using hu2) fun h' a1 a2 a3 a4 a5 a6 a7 => ?_
    have hp : H s.heap.objs.size = none := I.fresh
    have lt : ∀ q ∈ [z, TI, TO, i1, i2], q ≠ s.heap.objs.size := fun q hq e => by
      have hq' : ∃ o, s.heap.get? q = some o := by
        simp only [List.mem_cons, List.not_mem_nil, or_false] at hq
        obtain ⟨o4, e4, _⟩ := id s4
        obtain ⟨o5, e5, _⟩ := id s5
        rcases hq with rfl | rfl | rfl | rfl | rfl
        · exact ⟨_, s1⟩
        · exact ⟨_, s2⟩
        · exact ⟨_, s3⟩
        · exact ⟨_, e4⟩
        · exact ⟨_, e5⟩
      obtain ⟨o, ho⟩ := hq'
      have := Heap.lt_size ho
      rw [e] at this; exact absurd this (Nat.lt_irrefl _)
    have I1 : Inv X pins σ (upd H s.heap.objs.size (.tup [x, y])) { s with heap := s.heap.push { cls := .type "tuple", data := .seq #[u, u2] } } :=
      I.laid (t' := s.toks) (fun b u e => Heap.get?_push_of_some _ e) (Nat.le_refl _) ⟨(by show 2 ≤ sizeLine; decide), [u, u2], .cons ru (.cons ru2 .nil), ⟨_, Heap.get?_push_size _ rfl, rfl, _, rfl⟩⟩
    have hf1 : ∀ q ∈ [z, TI, TO, i1, i2], FpOk X pins (upd H s.heap.objs.size (.tup [x, y])) q := fun q hq => ⟨by rw [upd_ne (lt q hq)]; exact (hf q hq).1, (hf q hq).2⟩
    have I2 : Inv X pins σ (upd H s.heap.objs.size (.tup [x, y])) { s with heap := h' } := I1.moved (t' := s.toks) (ch := [z, TI, TO, i1, i2]) hf1 fun c o hc' e => by
      simp only [List.mem_cons, List.not_mem_nil, or_false, not_or] at hc'
      by_cases hcp : c = s.heap.objs.size
      · subst hcp
        have e' : (s.heap.push { cls := .type "tuple", data := .seq #[u, u2] }).get? s.heap.objs.size = some { cls := .type "tuple", data := .seq #[u, u2] } := Heap.get?_push_size _ rfl
        rw [e'] at e; cases e; exact a5
      · refine a7 c o hc'.1 hc'.2.2.1 hc'.2.2.2.1 hc'.2.2.2.2 ?_
        rw [Heap.get?_push_ne _ _ _ hcp] at e; exact e
    refine ⟨_, rfl, wpAny_letOwnedTupleGo_zip a1 fun h'' b1 b2 => ?_⟩
    have I3 : Inv X pins σ (upd H s.heap.objs.size (.tup [x, y])) { s with heap := h'' } := I2.turned (t' := s.toks) (fun c o hc' e => (b2.2 c hc').trans e) (hf1 z (by simp)).1 (hf1 z (by simp)).2.1 (hf1 z (by simp)).2.2.2.1 (hf1 z (by simp)).2.2.2.2.1 (hf1 z (by simp)).2.2.2.2.2
    have sTI : IsPair h' TI (.ref i1) (.ref i2) := a7 TI _ D.TIz D.TITO D.TIi1 D.TIi2 s2
    refine ⟨.ref s.heap.objs.size, _, I3, rfl, ⟨x, y, _, rfl, hp, rfl, fun xs' ys' h1 h2 => ?_⟩, ⟨b1, (b2.2 TI D.TIz).trans sTI, ⟨u, u2, (b2.2 TO D.TOz).trans a2⟩, a3.at fun o e => (b2.2 i1 D.i1z).trans e, a4.at fun o e => (b2.2 i2 D.i2z).trans e⟩, fun q hq => (hf1 q hq).1⟩
    have e1 := I.list_inj (X := X) (.inl h1) (.inl r1)
    have e2 := I.list_inj (X := X) (.inl h2) (.inl r2)
    rw [e1, e2]; exact ⟨hx, hy⟩
  done := by
    intro X hP hw hK hc i pins s σ H E I hf st hg
    subst hP hw hK
    obtain ⟨s1, s2, ⟨a, b, s3⟩, s4, s5⟩ := st
    obtain ⟨xs, ys, r1, r2, hx⟩ := hg
    obtain ⟨its, rv, p, hz⟩ := I.list (X := X) (.inl r1)
    obtain ⟨its2, rv2, p2, hz2⟩ := I.list (X := X) (.inl r2)
    have fz := hf z (by simp)
    have fTI := hf TI (by simp)
    have fTO := hf TO (by simp)
    have f1 := hf i1 (by simp)
    have f2 := hf i2 (by simp)
    have A : ZipApart z TI TO i1 i2 l1 l2 := ⟨D.TIz, D.TOz, D.i1z, D.i2z, D.TITO, D.TIi1, D.TIi2, D.TOi1, D.TOi2, D.i12, r1.ne fz.1, r1.ne fTO.1, r1.ne f1.1, r1.ne f2.1, r2.ne fz.1, r2.ne fTO.1, r2.ne f1.1, r2.ne f2.1⟩
    have L1 := rv.length
    have L2' := rv2.length
    refine wpAny_pyNext_zip_end (I.ok.hd hc) A s1 s2 s3 s4 s5 p.isList p2.isList (hx.imp (fun h => by simp; omega) fun h => by simp; omega) fun h' kk => ⟨rfl, ?_⟩
    exact I.moved (t' := s.toks) (ch := [z, TI, TO, i1, i2]) hf fun c o hc' e => by
      simp only [List.mem_cons, List.not_mem_nil, or_false, not_or] at hc'
      exact kk c o hc'.1 hc'.2.2.1 hc'.2.2.2.1 hc'.2.2.2.2 e
  self := fun _ _ _ _ _ st h => wpAny_pyIter_zip st.1 h
theorem zne {n i j : Nat} (h : i ≠ j) : n + i ≠ n + j := fun e => h (Nat.add_left_cancel e)
theorem zne' {n j : Nat} (h : 0 ≠ j) : n ≠ n + j := fun e => h (Nat.add_left_cancel (n := n) (by rw [Nat.add_zero]; exact e))
section
variable {X : Cx}
def iZip (ta : TA) : TI := fun σ H R => ta σ H fun vs H1 => ∃ l1 l2 xs ys, vs = [.ref l1, .ref l2] ∧ Rd H1 l1 (.lst xs) ∧ Rd H1 l2 (.lst ys) ∧ R (Itz l1 l2) H1
theorem pi_zip {elts : List Expr} {x1} {tp : Pos} {a b : Expr} {ta : TA} {p pos : Pos} (hg : Gl X "zip") (hm : X.mg "zip" = none) (ha : PA X [a, b] ta) (hs : starEach [a, b] X.env = [(false, eval a X.env), (false, eval b X.env)] := by rfl) (hs2 : starEach [b] X.env = [(false, eval b X.env)] := by rfl) :
    PI X (.Tuple elts x1 tp) (.Call (.Name "zip" p) [a, b] [] pos) (iZip ta) := by
  intro pins s σ H R I h
  refine Call_ (ld_blt I hg hm bt_zip (PyProof.Rows.callWith_type1 (thn (ha pos pins s σ H _ I h) fun us s1 ⟨vs, H1, I1, r1, q1⟩ => ?_) (by rw [hs, hs2]) (by rw [hs2]; rfl)))
  obtain ⟨l1, l2, xs, ys, e, d1, d2, q⟩ := q1
  subst e
  obtain ⟨u, w', rfl, rx, ry⟩ := vals2 r1
  cases (show u = Value.ref l1 from rx)
  cases (show w' = Value.ref l2 from ry)
  obtain ⟨its, rv, pl, hz⟩ := I1.list (X := X) (.inl d1)
  obtain ⟨its2, rv2, pl2, hz2⟩ := I1.list (X := X) (.inl d2)
  refine call_zip_2 pl.isList pl2.isList fun h' a1 a2 a3 a4 a5 a6 a7 => ?_
  have I2 : Inv X pins σ H1 { s1 with heap := h' } := I1.kept (t' := s1.toks) fun b o e => a7 b o e
  refine wpAny_pyIter_zip a1 ?_
  have big : ∀ k : Nat, s1.heap.objs.size ≤ s1.heap.objs.size + k := fun k => Nat.le_add_right _ _
  refine ⟨_, _, _, _, H1, rfl, I2, turn_zip (z := s1.heap.objs.size + 4) (TI := s1.heap.objs.size + 2) (TO := s1.heap.objs.size + 3) (i1 := s1.heap.objs.size) (i2 := s1.heap.objs.size + 1) ⟨zne (by decide), zne (by decide), zne' (by decide), zne (by decide), zne (by decide), (zne' (by decide)).symm, zne (by decide), (zne' (by decide)).symm, zne (by decide), zne' (by decide)⟩, ⟨a1, a2, ⟨_, _, a3⟩, a4, a5⟩, fun b hb => ?_, q⟩
  have hb' : s1.heap.objs.size ≤ b := by
    simp only [List.mem_cons, List.not_mem_nil, or_false] at hb
    rcases hb with rfl | rfl | rfl | rfl | rfl <;> first | exact big _ | exact Nat.le_refl _
  exact I1.fpOk hb' (I1.hok.fresh hb')
end
section
variable {σ : St} {H : Hp} {Q : VK} {D : Ends}
theorem r_comp {wi : TI} {g : TG} {tt : TT} {te : TE} {js : List (Option Nat)} (h : wi σ H fun J H1 => ∀ D, H1 D = none → compW J g tt te D (compSt js σ) H1 fun H' => Q (.ref D) H') : tComp wi g tt te js σ H Q := h
theorem r_izip {ta : TA} {R : It → Hp → Prop} (h : ta σ H fun vs H1 => ∃ l1 l2 xs ys, vs = [.ref l1, .ref l2] ∧ Rd H1 l1 (.lst xs) ∧ Rd H1 l2 (.lst ys) ∧ R (Itz l1 l2) H1) : iZip ta σ H R := h
theorem r_true {QT : Bool → Hp → Prop} (h : QT true H) : tTrue σ H QT := h
theorem r_par {i j : Nat} {ta : TA} (h : ta σ H fun vs H1 => ∃ v w, vs = [v, w] ∧ D.nx ((σ.set i (some v)).set j (some w)) H1) : tPar i j ta D σ H := h
theorem Rd.same {H H' : Hp} {a : Addr} {o : HO} (r : Rd H a o) (g : Same H H') : Rd H' a o := by
  rcases r with r | ⟨ob, r⟩
  · exact .inl (g _ _ r)
  · exact .inr ⟨ob, g _ _ r⟩
end
/-! the same rules with the fragment named: for blocks of comprehensions -/
section
variable {X : Cx} {K : PySem.W.Frag}
theorem pg_tupK {es : List Expr} {k : Nat} {t : TGs} {n : Nat} {pos : Pos} (hK : X.K = K) (hc : X.calm = true) (h : PGs X es t) (hn : (assignEach es X.env).length = n) (hst : (assignEach es X.env).findIdx? (·.1) = none := by rfl) : PG X (.Tuple es k pos) (gTup K n t) := by
  subst hK; exact pg_tup hc h hn hst
theorem ix_listK (hK : X.K = K) : IxR X (rIxL K) := by subst hK; exact ix_list
theorem ix_tupK (hK : X.K = K) : IxR X (rIxT K) := by subst hK; exact ix_tup
theorem sl_listK (hK : X.K = K) : SlR X (rSlL K) := by subst hK; exact sl_list
theorem c_lenK (hK : X.K = K) : CallR X (.builtin "len") (rLen K) := by subst hK; exact c_len
theorem c_listK (hK : X.K = K) : CallR X (.type "list") (rListOf K) := by subst hK; exact c_list
theorem call_isiK (hK : X.K = K) : CallR X (.builtin "isinstance") (rIsi K) := by subst hK; exact call_isi
end
end L2

set_option Elab.async false
set_option linter.all false
set_option maxRecDepth 100000
set_option autoImplicit false
namespace L2
open PySem PySem.Spec PyProof.Rows

/-! ### xs[::-1] -/
def rRev (K : PySem.W.Frag) : V → Hp → VK → Prop := fun x H Q => ∃ a xs, x = .ref a ∧ SqL K H a xs ∧ ∀ p, H p = none → Q (.ref p) (upd H p (.lst xs.reverse))
section
variable {X : Cx} {e : Expr} {te : TE} {pos p2 p3 p4 : Pos} {j : Nat}
def tRev (K : PySem.W.Frag) (te : TE) : TE := fun σ H Q => te σ H fun x H1 => rRev K x H1 Q
theorem pe_rev (he : PE X e te) : PE X (.Subscript e (.Slice none none (some (.UnaryOp .USub (.Constant (.int 1) j p4) p3)) p2) pos) (tRev X.K te) := by
  intro pins s σ H Q I h
  refine Subscript_ (thn (he pins s σ H _ I h) fun v s1 ⟨x, H1, I1, r1, q1⟩ => ?_)
  obtain ⟨a, xs, rfl, hS, q⟩ := q1
  cases r1
  refine wpAny_Slice ?_
  rw [evalPart_none]
  refine wpAny_pure ?_
  rw [evalPart_some]
  refine wpAny_pure ?_
  have h1 : PE X (.UnaryOp .USub (.Constant (.int 1) j p4) p3) (tUn (rU fun i => .int (-i)) (tC (.int 1))) := pe_un un_neg pe_int
  refine thn (h1 pins s1 σ H1 (fun y H' => y = .int (-1) ∧ H' = H1) I1 ⟨1, rfl, rfl, rfl⟩) fun vk s2 ⟨y, H2, I2, r2, e1, e2⟩ => ?_
  subst e1; subst e2
  obtain ⟨t, rfl⟩ := r2
  obtain ⟨its, rv, pl, hz⟩ := I2.list hS
  have hlen := rv.length
  have I4 : Inv X pins σ H2 { s2 with heap := s2.heap.push { cls := .type "slice", data := .fields #[.none, .none, .int (-1) t] } } := I2.kept (t' := s2.toks) fun b ob q => Heap.get?_push_of_some _ q
  obtain ⟨its', rv', pl', hz'⟩ := I4.list hS
  have hlen' := rv'.length
  show wpAny (model X.prog X.w) X.A (subscriptTail e (.Slice none none (some (.UnaryOp .USub (.Constant (.int 1) j p4) p3)) p2) (.ref a) (.ref s2.heap.objs.size)) (EP X pins σ Q) X.xe { s2 with heap := s2.heap.push { cls := .type "slice", data := .fields #[.none, .none, .int (-1) t] } }
  refine tail_any (ops := [.ref a, .ref s2.heap.objs.size]) pl'.isList.typeIs slot_list_getitem.lookup ?_ (by with_unfolding_all rfl)
  refine wpAny_getItem_list_slice pl'.isList (Heap.IsSliceOf.new ..) .none .none (.int (-1) t) (by decide) ?_ (by rw [List.size_toArray] <;> omega)
  rw [PySem.W.krv_pick]
  refine ⟨.ref _, _, I4.laid (t' := s2.toks) (o := .lst xs.reverse) (fun b ob q => Heap.get?_push_of_some _ q) (Nat.le_refl _) ?_, rfl, q _ (I4.hok.fresh (Nat.le_refl _))⟩
  exact ⟨by rw [List.length_reverse]; exact hz, _, 0, rv'.reverse, Heap.get?_push_size _ rfl⟩
theorem r_rev {K : PySem.W.Frag} {σ : St} {H : Hp} {Q : VK} (h : te σ H fun x H1 => rRev K x H1 Q) : tRev K te σ H Q := h
theorem r_revL {K : PySem.W.Frag} {H : Hp} {Q : VK} {a : Addr} {xs : List V} (s : SqL K H a xs) (k : ∀ p, H p = none → Q (.ref p) (upd H p (.lst xs.reverse))) : rRev K (.ref a) H Q := ⟨a, xs, rfl, s, k⟩
end

/-! ### for x in reversed(xs) -/
def Itv (K : PySem.W.Frag) (a : Addr) (n : Nat) : It :=
  ⟨fun i H => i < n ∧ ∃ xs x, SqL K H a xs ∧ xs[n - 1 - i]? = some x, fun i H x H' => H' = H ∧ ∀ xs, SqL K H a xs → xs[n - 1 - i]? = some x, fun i _ => i = n⟩
theorem turn_rev {P : Program} {w : World} {K : PySem.W.Frag} {tg : Expr} (a it : Addr) (n : Nat) : Turn P w K tg (Itv K a n) [it] it (fun i h => i ≤ n ∧ h.IsRevIter it a ((n : Int) - 1 - i)) where
  mem := by simp
  obj := fun i h st b hb => by
    have e : b = it := by simpa using hb
    subst e
    obtain ⟨_, o, e, c, d⟩ := st
    exact ⟨o, e, fun v z => by rw [d] at z; cases z⟩
  keep := fun i h h' st k => ⟨st.1, st.2.at fun o e => k it (by simp) o e⟩
  item := by
    intro X hP hw hK hc i pins s σ H E I hf st hg
    subst hP hw hK
    obtain ⟨hi, xs, x, hq, hx⟩ := hg
    obtain ⟨its, rv, p, hz⟩ := I.list hq
    obtain ⟨u, hu, ru⟩ := rv.get hx
    obtain ⟨f0, f1, f2, f3, f4, f5⟩ := hf it (by simp)
    have e1 : (n : Int) - 1 - i = ((n - 1 - i : Nat) : Int) := by omega
    have st2 := st.2
    rw [e1] at st2
    refine PySem.wpAny_pyNext_rev_item st2 p.isList (x := u) (by simpa using hu) fun h' st' sb => ?_
    have I1 : Inv X pins σ H { s with heap := h' } := I.turned (t' := s.toks) (fun b o hb e => (sb.2 b hb).trans e) f0 f1 f3 f4 f5
    obtain ⟨o, e, c, d⟩ := id st'
    refine ⟨u, rfl, go_of (s := { s with heap := h' }) e c d (by decide) ⟨x, H, I1, ru, ⟨rfl, fun ys hy => by rw [I.list_inj hy hq]; exact hx⟩, ⟨hi, ?_⟩, fun b hb => (hf b hb).1⟩⟩
    have e2 : (n : Int) - 1 - ((i + 1 : Nat) : Int) = ((n - 1 - i : Nat) : Int) - 1 := by omega
    rw [e2]; exact st'
  done := by
    intro X hP hw hK hc i pins s σ H E I hf st hg
    subst hP hw hK
    obtain ⟨f0, f1, f2, f3, f4, f5⟩ := hf it (by simp)
    have hg' : i = n := hg
    subst hg'
    have st2 := st.2
    rw [show (i : Int) - 1 - i = -1 by omega] at st2
    exact PySem.wpAny_pyNext_rev_end (I.ok.hd hc) st2 fun h' eb => ⟨rfl, I.turned (t' := s.toks) (fun b o hb e => eb b o hb e) f0 f1 f3 f4 f5⟩
  self := fun _ _ _ _ _ st h => PySem.wpAny_pyIter_revIter st.2 h
section
variable {X : Cx} {tg : Expr}
def iRev (K : PySem.W.Frag) (ta : TA) : TI := fun σ H R => ta σ H fun vs H1 => ∃ a xs, vs = [.ref a] ∧ SqL K H1 a xs ∧ R (Itv K a xs.length) H1
theorem pi_rev {a : Expr} {ta : TA} {p pos : Pos} (hg : Gl X "reversed") (hm : X.mg "reversed" = none) (ha : PA X [a] ta) (hs : starEach [a] X.env = [(false, eval a X.env)] := by rfl) : PI X tg (.Call (.Name "reversed" p) [a] [] pos) (iRev X.K ta) := by
  intro pins s σ H R I h
  refine Call_ (ld_blt I hg hm bt_reversed (PyProof.Rows.callWith_type1 (thn (ha pos pins s σ H _ I h) fun us s1 ⟨vs, H1, I1, r1, q1⟩ => ?_) hs rfl))
  obtain ⟨l, xs, e, hS, q⟩ := q1
  subst e
  obtain ⟨u, rfl, ru⟩ := vals1 r1
  cases (show u = Value.ref l from ru)
  obtain ⟨its, rv, pl, hz⟩ := I1.list hS
  have hlen := rv.length
  refine PySem.call_reversed_list pl.isList ?_
  have I2 : Inv X pins σ H1 { s1 with heap := s1.heap.push (PySem.revObj l ((its.toArray.size : Int) - 1)) } := I1.kept (t' := s1.toks) fun b o e => Heap.get?_push_of_some _ e
  have st : (s1.heap.push (PySem.revObj l ((its.toArray.size : Int) - 1))).IsRevIter s1.heap.objs.size l ((its.toArray.size : Int) - 1) := ⟨_, Heap.get?_push_size _ rfl, rfl, rfl⟩
  refine PySem.wpAny_pyIter_revIter (s := { s1 with heap := s1.heap.push (PySem.revObj l ((its.toArray.size : Int) - 1)) }) st ?_
  refine ⟨s1.heap.objs.size, [s1.heap.objs.size], _, _, H1, rfl, I2, turn_rev l _ xs.length, ⟨Nat.zero_le _, ?_⟩, fun b hb => ?_, q⟩
  · rw [List.size_toArray, ← hlen] at st
    rw [List.size_toArray, ← hlen, show (xs.length : Int) - 1 - ((0 : Nat) : Int) = (xs.length : Int) - 1 by omega]
    exact st
  · have e : b = s1.heap.objs.size := by simpa using hb
    subst e
    exact I1.fpOk (Nat.le_refl _) (I1.hok.fresh (Nat.le_refl _))
theorem r_irev {K : PySem.W.Frag} {σ : St} {H : Hp} {ta : TA} {R : It → Hp → Prop} (h : ta σ H fun vs H1 => ∃ a xs, vs = [.ref a] ∧ SqL K H1 a xs ∧ R (Itv K a xs.length) H1) : iRev K ta σ H R := h
end
/-- over a list from its end, which the body leaves as it is -/
theorem for_rev {K : PySem.W.Frag} {a : Addr} {xs : List V} {g : TG} {tb : TS} {D : Ends} {σ : St} {H : Hp} (Pv : Nat → St → Hp → Prop) (h0 : Pv 0 σ H) (hl : ∀ i σ H, i ≤ xs.length → Pv i σ H → SqL K H a xs)
    (hs : ∀ i x σ H, xs.reverse[i]? = some x → Pv i σ H → g x σ H fun σ2 H2 => tb { D with nx := Pv (i + 1), ct := Pv (i + 1), bk := D.nx } σ2 H2) (hd : ∀ σ H, Pv xs.length σ H → D.nx σ H) :
    ∃ W : Nat → Nat → St → Hp → Prop, (∃ m, W 0 m σ H) ∧ ∀ i m σ H, W i m σ H →
      ((Itv K a xs.length).stop i H ∧ D.nx σ H) ∨ ((Itv K a xs.length).go i H ∧ ∃ N : St → Hp → Prop, (∀ σ' H', N σ' H' → ∃ m', m' < m ∧ W (i + 1) m' σ' H') ∧ ∀ x H', (Itv K a xs.length).yld i H x H' → g x σ H' fun σ2 H2 => tb { D with nx := N, ct := N, bk := D.nx } σ2 H2) := by
  refine ⟨fun i m σ H => m = xs.length - i ∧ i ≤ xs.length ∧ Pv i σ H, ⟨xs.length, by simp, Nat.zero_le _, h0⟩, ?_⟩
  rintro i m σ H ⟨rfl, hi, p⟩
  have q := hl i σ H hi p
  by_cases hlt : i < xs.length
  · refine .inr ⟨⟨hlt, xs, xs[xs.length - 1 - i], q, by simp⟩, Pv (i + 1), fun σ' H' p' => ⟨xs.length - (i + 1), by omega, rfl, hlt, p'⟩, fun x H' y => ?_⟩
    obtain ⟨e, y⟩ := y
    subst e
    refine hs i x σ _ ?_ p
    rw [List.getElem?_reverse hlt]; exact y xs q
  · have e : i = xs.length := by omega
    subst e
    exact .inl ⟨rfl, hd σ H p⟩
/-! ### data that is read -/
section
variable {K : PySem.W.Frag} {H : Hp}
theorem RDs_ints : ∀ ns : List Int, RDs K H (ns.map PyData.int) (ns.map V.int)
  | [] => by unfold RDs; rfl
  | n :: t => by
    rw [List.map_cons, List.map_cons]
    unfold RDs
    exact ⟨_, _, rfl, by unfold RD; rfl, RDs_ints t⟩
theorem RD_ints {a : Addr} {ns : List Int} (s : SqL K H a (ns.map V.int)) : RD K H (.list (ns.map PyData.int)) (.ref a) := by
  unfold RD; exact ⟨a, _, rfl, s, RDs_ints ns⟩
theorem RDs_nil : RDs K H [] [] := by unfold RDs; rfl
theorem RDs_cons {d : PyData} {ds : List PyData} {x : V} {xs : List V} (h : RD K H d x) (t : RDs K H ds xs) : RDs K H (d :: ds) (x :: xs) := by
  unfold RDs; exact ⟨x, xs, rfl, h, t⟩
theorem RD_list {a : Addr} {ds : List PyData} {xs : List V} (s : SqL K H a xs) (t : RDs K H ds xs) : RD K H (.list ds) (.ref a) := by
  unfold RD; exact ⟨a, xs, rfl, s, t⟩
theorem RD_tup {a : Addr} {ds : List PyData} {xs : List V} (s : SqT K H a xs) (t : RDs K H ds xs) : RD K H (.tuple ds) (.ref a) := by
  unfold RD; exact ⟨a, xs, rfl, s, t⟩
theorem RD_int {n : Int} : RD K H (.int n) (.int n) := by unfold RD; rfl
theorem RD_str {n : Str} : RD K H (.str n) (.str n) := by unfold RD; rfl
/-- equal data: not unequal -/
theorem r_eqD {Q : VK} {x y : V} (d : PyData) (h1 : RD K H d x) (h2 : RD K H d y) (hc : SeqAt.shaped d = true) (k : Q (.bl true) H) : rEqD K x y H Q := by
  refine ⟨d, d, h1, h2, hc, hc, ?_⟩
  have hc' : d.canLay0 = true := by unfold SeqAt.shaped at hc; simp at hc; exact hc.1
  rw [SeqAt.eqv_refl d hc']; exact k
theorem r_neD {Q : VK} {x y : V} (d : PyData) (h1 : RD K H d x) (h2 : RD K H d y) (hc : SeqAt.shaped d = true) (k : Q (.bl false) H) : rNeD K x y H Q := by
  refine ⟨d, d, h1, h2, hc, hc, ?_⟩
  have hc' : d.canLay0 = true := by unfold SeqAt.shaped at hc; simp at hc; exact hc.1
  rw [SeqAt.eqv_refl d hc']; exact k
theorem shaped_LL (a b : List Int) : SeqAt.shaped (.list [.list (a.map PyData.int), .list (b.map PyData.int)]) = true := by
  have h1 := PySem.W.canLayAll0_ints a
  have h2 := PySem.W.canLayAll0_ints b
  have h3 := PySem.W.depthAll_ints a
  have h4 := PySem.W.depthAll_ints b
  unfold SeqAt.shaped
  simp only [PyData.canLay0, PyData.canLayAll0, PyData.depth, PyData.depthAll, h1, h2, Bool.and_self, Bool.true_and, Bool.and_true, decide_eq_true_eq]
  refine decide_eq_true ?_
  exact Nat.succ_le_of_lt (Nat.lt_of_le_of_lt (Nat.max_le.mpr ⟨Nat.succ_le_succ h3, Nat.max_le.mpr ⟨Nat.succ_le_succ h4, Nat.zero_le _⟩⟩) (by decide : 2 < 64))
end
end L2

set_option Elab.async false
set_option linter.all false
set_option maxRecDepth 100000
set_option autoImplicit false
namespace L2
open PySem PySem.Spec PyProof.Rows

/-! ### for i, x in enumerate(xs) -/
def Ite (K : PySem.W.Frag) (l : Addr) : It :=
  ⟨fun i H => ∃ xs x, SqL K H l xs ∧ xs[i]? = some x,
   fun i H v H' => ∃ x p, v = .ref p ∧ H p = none ∧ H' = upd H p (.tup [.int (i : Int), x]) ∧ ∀ xs, SqL K H l xs → xs[i]? = some x,
   fun i H => ∃ xs, SqL K H l xs ∧ xs.length ≤ i⟩
theorem turn_enum {P : Program} {w : World} {K : PySem.W.Frag} {elts : List Expr} {x1} {pos : Pos} {e it l : Addr} (hne : e ≠ it) :
    Turn P w K (.Tuple elts x1 pos) (Ite K l) [e, it] e (fun i h => (∃ old, IsEnum h e it (i : Int) old) ∧ h.IsListIter it l i) where
  mem := by simp
  obj := fun i h st b hb => by
    obtain ⟨⟨old, s1⟩, o4, e4, c4, d4⟩ := st
    simp only [List.mem_cons, List.not_mem_nil, or_false] at hb
    rcases hb with rfl | rfl
    · exact ⟨_, s1, fun v q => by cases q⟩
    · exact ⟨_, e4, fun v q => by rw [d4] at q; cases q⟩
  keep := fun i h h' st k => by
    obtain ⟨⟨old, s1⟩, s4⟩ := st
    exact ⟨⟨old, k e (by simp) _ s1⟩, s4.at fun o q => k it (by simp) o q⟩
  item := by
    intro X hP hw hK hc i pins s σ H E I hf st hg
    subst hP hw hK
    obtain ⟨⟨old, s1⟩, s4⟩ := st
    obtain ⟨xs, x, r1, hx⟩ := hg
    obtain ⟨its, rv, p, hz⟩ := I.list r1
    obtain ⟨u, hu, ru⟩ := rv.get hx
    refine wpAny_pyNext_enum_item s1 s4 p.isList (x := u) (by simpa using hu) hne fun h' a1 a2 a3 a4 a5 => ?_
    have hp : H s.heap.objs.size = none := I.fresh
    have lt : ∀ q ∈ [e, it], q ≠ s.heap.objs.size := fun q hq z => by
      have hq' : ∃ o, s.heap.get? q = some o := by
        simp only [List.mem_cons, List.not_mem_nil, or_false] at hq
        obtain ⟨o4, e4, _⟩ := id s4
        rcases hq with rfl | rfl
        · exact ⟨_, s1⟩
        · exact ⟨_, e4⟩
      obtain ⟨o, ho⟩ := hq'
      have := Heap.lt_size ho
      rw [z] at this; exact absurd this (Nat.lt_irrefl _)
    have I1 : Inv X pins σ (upd H s.heap.objs.size (.tup [.int (i : Int), x])) { s with heap := s.heap.push { cls := .type "tuple", data := .seq #[.int (i : Int) s.toks, u] }, toks := s.toks + 1 } :=
      I.laid (t' := s.toks + 1) (fun b u e => Heap.get?_push_of_some _ e) (Nat.le_refl _) ⟨(by show 2 ≤ sizeLine; decide), [.int (i : Int) s.toks, u], .cons ⟨_, rfl⟩ (.cons ru .nil), ⟨_, Heap.get?_push_size _ rfl, rfl, _, rfl⟩⟩
    have hf1 : ∀ q ∈ [e, it], FpOk X pins (upd H s.heap.objs.size (.tup [.int (i : Int), x])) q := fun q hq => ⟨by rw [upd_ne (lt q hq)]; exact (hf q hq).1, (hf q hq).2⟩
    have I2 : Inv X pins σ (upd H s.heap.objs.size (.tup [.int (i : Int), x])) { s with heap := h', toks := s.toks + 1 } := I1.moved (t' := s.toks + 1) (ch := [e, it]) hf1 fun c o hc' q => by
      simp only [List.mem_cons, List.not_mem_nil, or_false, not_or] at hc'
      by_cases hcp : c = s.heap.objs.size
      · subst hcp
        have e' : (s.heap.push { cls := .type "tuple", data := .seq #[.int (i : Int) s.toks, u] }).get? s.heap.objs.size = some { cls := .type "tuple", data := .seq #[.int (i : Int) s.toks, u] } := Heap.get?_push_size _ rfl
        rw [e'] at q; cases q; exact a3
      · refine a5 c o hc'.1 hc'.2 ?_
        rw [Heap.get?_push_ne _ _ _ hcp] at q; exact q
    refine ⟨_, rfl, wpAny_letOwnedTupleGo_enum a1 fun h'' b1 b2 => ?_⟩
    have fe := hf1 e (by simp)
    have I3 : Inv X pins σ (upd H s.heap.objs.size (.tup [.int (i : Int), x])) { s with heap := h'', toks := s.toks + 1 } := I2.turned (t' := s.toks + 1) (fun c o hc' q => (b2.2 c hc').trans q) fe.1 fe.2.1 fe.2.2.2.1 fe.2.2.2.2.1 fe.2.2.2.2.2
    refine ⟨.ref s.heap.objs.size, _, I3, rfl, ⟨x, _, rfl, hp, rfl, fun xs' h1 => ?_⟩, ⟨⟨u, ?_⟩, a2.at fun o q => (b2.2 it hne.symm).trans q⟩, fun q hq => (hf1 q hq).1⟩
    · rw [I.list_inj h1 r1]; exact hx
    · rw [show ((i + 1 : Nat) : Int) = (i : Int) + 1 by omega]; exact b1
  done := by
    intro X hP hw hK hc i pins s σ H E I hf st hg
    subst hP hw hK
    obtain ⟨⟨old, s1⟩, s4⟩ := st
    obtain ⟨xs, r1, hx⟩ := hg
    obtain ⟨its, rv, p, hz⟩ := I.list r1
    have L1 := rv.length
    refine wpAny_pyNext_enum_end (I.ok.hd hc) s1 s4 p.isList (by simp; omega) fun h' kk => ⟨rfl, ?_⟩
    obtain ⟨f0, f1, f2, f3, f4, f5⟩ := hf it (by simp)
    exact I.turned (t' := s.toks) (fun b o hb q => kk b o hb q) f0 f1 f3 f4 f5
  self := fun _ _ _ _ _ st h => wpAny_pyIter_enum st.1.choose_spec h
section
variable {X : Cx}
def iEnum (K : PySem.W.Frag) (ta : TA) : TI := fun σ H R => ta σ H fun vs H1 => ∃ l xs, vs = [.ref l] ∧ SqL K H1 l xs ∧ R (Ite K l) H1
theorem pi_enum {elts : List Expr} {x1} {tp : Pos} {a : Expr} {ta : TA} {p pos : Pos} (hg : Gl X "enumerate") (hm : X.mg "enumerate" = none) (ha : PA X [a] ta) (hs : starEach [a] X.env = [(false, eval a X.env)] := by rfl) :
    PI X (.Tuple elts x1 tp) (.Call (.Name "enumerate" p) [a] [] pos) (iEnum X.K ta) := by
  intro pins s σ H R I h
  refine Call_ (ld_blt I hg hm bt_enumerate (PyProof.Rows.callWith_type1 (thn (ha pos pins s σ H _ I h) fun us s1 ⟨vs, H1, I1, r1, q1⟩ => ?_) hs rfl))
  obtain ⟨l, xs, e, d1, q⟩ := q1
  subst e
  obtain ⟨u, rfl, ru⟩ := vals1 r1
  cases (show u = Value.ref l from ru)
  obtain ⟨its, rv, pl, hz⟩ := I1.list d1
  refine call_enumerate_list pl.isList fun h' a1 a2 a3 a4 => ?_
  have I2 : Inv X pins σ H1 { s1 with heap := h' } := I1.kept (t' := s1.toks) fun b o e => a4 b o e
  refine wpAny_pyIter_enum a1 ?_
  refine ⟨_, _, _, _, H1, rfl, I2, turn_enum (it := s1.heap.objs.size) (l := l) (Nat.succ_ne_self _), ⟨⟨_, a1⟩, a2⟩, fun b hb => ?_, q⟩
  have hb' : s1.heap.objs.size ≤ b := by
    simp only [List.mem_cons, List.not_mem_nil, or_false] at hb
    rcases hb with rfl | rfl
    · exact Nat.le_succ _
    · exact Nat.le_refl _
  exact I1.fpOk hb' (I1.hok.fresh hb')
theorem r_ienum {K : PySem.W.Frag} {σ : St} {H : Hp} {ta : TA} {R : It → Hp → Prop} (h : ta σ H fun vs H1 => ∃ l xs, vs = [.ref l] ∧ SqL K H1 l xs ∧ R (Ite K l) H1) : iEnum K ta σ H R := h
end
/-- over a list with its places, which the body leaves as it is -/
theorem for_enum {K : PySem.W.Frag} {a : Addr} {xs : List V} {g : TG} {tb : TS} {D : Ends} {σ : St} {H : Hp} (Pv : Nat → St → Hp → Prop) (h0 : Pv 0 σ H) (hl : ∀ i σ H, i ≤ xs.length → Pv i σ H → SqL K H a xs)
    (hs : ∀ i x p σ H, xs[i]? = some x → Pv i σ H → H p = none → g (.ref p) σ (upd H p (.tup [.int (i : Int), x])) fun σ2 H2 => tb { D with nx := Pv (i + 1), ct := Pv (i + 1), bk := D.nx } σ2 H2)
    (hd : ∀ σ H, Pv xs.length σ H → D.nx σ H) :
    ∃ W : Nat → Nat → St → Hp → Prop, (∃ m, W 0 m σ H) ∧ ∀ i m σ H, W i m σ H →
      ((Ite K a).stop i H ∧ D.nx σ H) ∨ ((Ite K a).go i H ∧ ∃ N : St → Hp → Prop, (∀ σ' H', N σ' H' → ∃ m', m' < m ∧ W (i + 1) m' σ' H') ∧ ∀ x H', (Ite K a).yld i H x H' → g x σ H' fun σ2 H2 => tb { D with nx := N, ct := N, bk := D.nx } σ2 H2) := by
  refine ⟨fun i m σ H => m = xs.length - i ∧ i ≤ xs.length ∧ Pv i σ H, ⟨xs.length, by simp, Nat.zero_le _, h0⟩, ?_⟩
  rintro i m σ H ⟨rfl, hi, p⟩
  have q := hl i σ H hi p
  by_cases hlt : i < xs.length
  · refine .inr ⟨⟨xs, xs[i], q, by simp [hlt]⟩, Pv (i + 1), fun σ' H' p' => ⟨xs.length - (i + 1), by omega, rfl, hlt, p'⟩, fun x H' y => ?_⟩
    obtain ⟨z, pp, rfl, hpn, rfl, y⟩ := y
    exact hs i z pp σ _ (y xs q) p hpn
  · have e : i = xs.length := by omega
    subst e
    exact .inl ⟨⟨xs, q, Nat.le_refl _⟩, hd σ H p⟩

/-! ### list(reversed(xs)) -/
section
variable {prog : Program} {w : World} {A : Around} {E : Value → Shared → Prop} {s : Shared}
theorem no_len_lri : typeLookup (.type "list_reverseiterator") "__len__" = pure none := by rw [typeLookup_type, builtinLookup_eq_fast]; kernel_rfl
theorem hint_lri : typeLookup (.type "list_reverseiterator") "__length_hint__" = pure (some (.builtin "list_reverseiterator.__length_hint__")) := by rw [typeLookup_type, builtinLookup_eq_fast]; kernel_rfl
theorem lri_hint {r : Addr} {Q : Bool → Shared → Prop} (hT : s.TypeIs (.ref r) "list_reverseiterator") (h : Q false s) : wpAny (model prog w) A (Builtin.List.listLengthHint (.ref r)) Q E s := by
  unfold Builtin.List.listLengthHint
  refine wpAny_bind (wpAny_specialOf hT no_len_lri ?_)
  show wpAny _ _ (specialOf (Value.ref r) (Str.ofString "__length_hint__") >>= _) _ _ _
  refine wpAny_bind (wpAny_specialOf hT hint_lri ?_)
  generalize hid : ("list_reverseiterator.__length_hint__" : String) = id0
  wp_delta
  rw [show splitId id0 = some ("list_reverseiterator", "__length_hint__") from by subst hid; decide +kernel]
  subst hid
  refine wpAny_bind (wpAny_isInstance (T := "list_reverseiterator") (b := true) hT (by rw [isSubtype_type]; kernel_rfl) ?_)
  refine wpAny_ite_split (fun hab => absurd hab (by decide)) (fun _ => ?_)
  refine wpAny_ite_split (fun _ => ?_) (fun hab => absurd (by decide +kernel) hab)
  refine wpAny_ite_split (fun hab => absurd hab (by decide +kernel)) (fun _ => ?_)
  exact wpAny_pure h
theorem lri_extend {R : Result → Shared → Prop} {I l : Addr} {items : Array Value} (hh : A.handled = none) (hne : l ≠ I) (S : Addr) (hSI : S ≠ I) (hSl : S ≠ l) (res : Value) (c₀ : Nat)
    (hI : s.heap.IsRevIter I l ((items.size : Int) - 1)) (hl : s.heap.IsList l items) (hS : s.heap.get? S = some { cls := .type "list", data := .seq #[] c₀ })
    (hR : ∀ h' tk acc' c', (∀ b o, b ≠ S → b ≠ I → s.heap.get? b = some o → h'.get? b = some o) → h'.get? S = some { cls := .type "list", dict := none, data := .seq acc' c', slots := #[] } →
      ItemsOf (fun i v => items[items.size - 1 - i]? = some v) acc' items.size → R (.ok (.ret res)) { s with heap := h', toks := tk }) (hn : items.size ≤ sizeLine) :
    wpAny (model prog w) A.in1 (Builtin.List.listExtendWith (.ref S) (.ref I) res)
      (fun fin s' => match fin with | .done f => R (.ok f) s' | .again c' => c'.quiet = true ∧ codeAny (model prog w) A c' R s') (fun e s' => R (.error e) s') s := by
  have hSf : S ∉ [I, l] := by simp only [List.mem_cons, List.not_mem_nil, or_false, not_or]; exact ⟨hSI, hSl⟩
  have W := Walks.listRev (prog := prog) (w := w) (A := A.in1) hh I l hne items
  have st : (fun (i : Nat) (h : Heap) => i ≤ items.size ∧ h.IsRevIter I l ((items.size : Int) - 1 - (i : Int)) ∧ h.IsList l items) 0 s.heap := ⟨Nat.zero_le _, by simpa using hI, hl⟩
  unfold Builtin.List.listExtendWith
  refine wpAny_bind (wpAny_typeOf (T := "list_reverseiterator") hI.typeIs ?_)
  have h1 : Builtin.List.listSameRef (.ref S) (.ref I) = false := by simp [Builtin.List.listSameRef, hSI]
  have h2 : (Value.type "list_reverseiterator" == Value.type "list") = false := by decide
  have h3 : (Value.type "list_reverseiterator" == Value.type "tuple") = false := by decide
  simp only [h1, h2, h3, Bool.or_false, Bool.false_eq_true, if_false]
  refine wpAny_bind (wpAny_pyIter_revIter hI ?_)
  refine wpAny_bind (wpAny_holding (lri_hint hI.typeIs ?_))
  refine wpAny_ite_split (fun hab => absurd hab (by decide +kernel)) (fun _ => wpAny_pure ⟨plainId_quiet PySem.F.plain_extend_loop _, ?_⟩)
  refine codeAny_extend_loopS W.toS hn S hSf res items.size 0 _ #[] c₀ rfl (Nat.zero_le _) st hS (ItemsOf.nil _) fun s' acc' c' hm hS' hacc => ?_
  rw [Moved.eq_with hm]
  refine hR s'.heap s'.toks acc' c' (fun b o hb hbI e => hm.heap b o (fun hmem => ?_) e) hS' hacc
  rcases List.mem_cons.mp hmem with e' | hmem
  · exact hb e'
  · exact hbI (List.mem_singleton.mp hmem)
theorem lri_init {R : Result → Shared → Prop} {I l : Addr} {items : Array Value} (hh : A.handled = none) (hne : l ≠ I) (S : Addr) (hSI : S ≠ I) (hSl : S ≠ l)
    (hI : s.heap.IsRevIter I l ((items.size : Int) - 1)) (hl : s.heap.IsList l items) (hS : s.heap.get? S = some { cls := .type "list", data := .seq #[] })
    (hR : ∀ h' tk acc' c', (∀ b o, b ≠ S → b ≠ I → s.heap.get? b = some o → h'.get? b = some o) → h'.get? S = some { cls := .type "list", dict := none, data := .seq acc' c', slots := #[] } →
      ItemsOf (fun i v => items[items.size - 1 - i]? = some v) acc' items.size → R (.ok (.ret .none)) { s with heap := h', toks := tk }) (hn : items.size ≤ sizeLine) :
    wpAny (model prog w) A.in1 (Builtin.«list.__init__» ⟨[.ref S, .ref I], []⟩)
      (fun fin s' => match fin with | .done f => R (.ok f) s' | .again c' => c'.quiet = true ∧ codeAny (model prog w) A c' R s') (fun e s' => R (.error e) s') s := by
  show wpAny _ _ (do let old ← Builtin.List.listItems (.ref S); Builtin.List.listUpdate (.ref S) (fun _ => #[]); letGo old.toList.reverse; Builtin.List.listExtendWith (.ref S) (.ref I) .none) _ _ s
  refine wpAny_bind ?_
  unfold Builtin.List.listItems
  refine wpAny_bind (wpAny_seqItems hS rfl (wpAny_pure ?_))
  show wpAny _ _ (updateSeq S (fun _ => #[]) >>= fun _ => letGo (#[] : Array Value).toList.reverse >>= fun _ => Builtin.List.listExtendWith (.ref S) (.ref I) .none) _ _ s
  refine wpAny_bind (wpAny_updateSeq hS rfl ?_)
  have hS₂ := Heap.get?_update_self (Obj.mapSeq (fun _ => (#[] : Array Value))) hS rfl
  have oth : ∀ b o, b ≠ S → s.heap.get? b = some o → (s.heap.update S (Obj.mapSeq (fun _ => (#[] : Array Value)))).get? b = some o :=
    fun b o hb e => (Heap.get?_update_other _ _ (Ne.symm hb)).trans e
  refine wpAny_bind (wpAny_letGo ?_)
  refine lri_extend hh hne S hSI hSl .none _ (hI.at fun o e => oth _ o hSI.symm e) (hl.at fun o e => oth _ o hSl.symm e) hS₂ (fun h' tk acc' c' hk hS' hacc => ?_) hn
  exact hR h' tk acc' c' (fun b o hb hbI e => hk b o hb hbI (oth b o hb e)) hS' hacc
theorem call_list_lri {Q : Value → Shared → Prop} {I l : Addr} {items : Array Value} (hh : A.handled = none) (hne : l ≠ I)
    (hI : s.heap.IsRevIter I l ((items.size : Int) - 1)) (hl : s.heap.IsList l items) (hn : items.size ≤ sizeLine)
    (hQ : ∀ h' tk acc' c', (∀ b o, b ≠ I → s.heap.get? b = some o → h'.get? b = some o) → h'.get? s.heap.objs.size = some { cls := .type "list", dict := none, data := .seq acc' c', slots := #[] } →
      ItemsOf (fun i v => items[items.size - 1 - i]? = some v) acc' items.size → Q (.ref s.heap.objs.size) { s with heap := h', toks := tk }) :
    wpAny (model prog w) A (call (.type "list") [.ref I]) Q E s := by
  refine callType_codes (Q₁ := fun obj s₁ => obj = .ref s.heap.objs.size ∧ s₁ = { s with heap := s.heap.push { cls := .type "list", data := .seq #[] } }) PySem.F.called_list (PySem.F.typeCall_list_1 _) PySem.F.entry_list_init
    (code_list_new _ ⟨rfl, rfl⟩) fun obj s₁ h₁ => ?_
  obtain ⟨rfl, rfl⟩ := h₁
  have hS : (s.heap.push { cls := .type "list", data := .seq #[] }).get? s.heap.objs.size = some { cls := .type "list", data := .seq #[] } := Heap.get?_push_size _ rfl
  have ltI : I < s.heap.objs.size := by obtain ⟨o, e, _⟩ := hI; exact Heap.lt_size e
  have ltl : l < s.heap.objs.size := by obtain ⟨o, e, _⟩ := hl; exact Heap.lt_size e
  refine ⟨⟨_, hS, rfl⟩, PySem.F.args_list_init_2 _ _, lri_init (A := A.in1) hh hne _ (Nat.ne_of_gt ltI) (Nat.ne_of_gt ltl) (hI.at fun o e => Heap.get?_push_of_some _ e) (hl.at fun o e => Heap.get?_push_of_some _ e) hS (fun h' tk acc' c' hk hS' hacc => ?_) hn⟩
  exact ⟨rfl, hQ h' tk acc' c' (fun b o hbI e => hk b o (Nat.ne_of_lt (Heap.lt_size e)) hbI (Heap.get?_push_of_some _ e)) hS' hacc⟩
end
theorem items_rev {its : List Value} {acc : Array Value} (h : ItemsOf (fun i v => its.toArray[its.toArray.size - 1 - i]? = some v) acc its.toArray.size) : acc.toList = its.reverse := by
  obtain ⟨h1, h2⟩ := h
  have hsz : acc.size = its.length := by simpa using h1
  refine List.ext_getElem? fun i => ?_
  by_cases hi : i < its.length
  · have hi' : i < acc.size := by omega
    have q := h2 i (acc[i]) (by simp [hi'])
    rw [List.getElem?_reverse hi]
    have e1 : acc.toList[i]? = some acc[i] := by simp [hi']
    rw [e1]
    simpa using q.symm
  · rw [List.getElem?_eq_none (by rw [Array.length_toList]; omega), List.getElem?_eq_none (by rw [List.length_reverse]; omega)]
section
variable {X : Cx}
def tLRev (K : PySem.W.Frag) (ta : TA) : TE := fun σ H Q => ta σ H fun vs H1 => ∃ a xs, vs = [.ref a] ∧ SqL K H1 a xs ∧ ∀ l, H1 l = none → Q (.ref l) (upd H1 l (.lst xs.reverse))
theorem pe_lrev {a : Expr} {ta : TA} {p pos p2 pos2 : Pos} (hc : X.calm = true) (hg : Gl X "list") (hm : X.mg "list" = none) (hg2 : Gl X "reversed") (hm2 : X.mg "reversed" = none) (ha : PA X [a] ta) (hs : starEach [a] X.env = [(false, eval a X.env)] := by rfl)
    (hs2 : starEach [.Call (.Name "reversed" p2) [a] [] pos2] X.env = [(false, eval (.Call (.Name "reversed" p2) [a] [] pos2) X.env)] := by rfl) :
    PE X (.Call (.Name "list" p) [.Call (.Name "reversed" p2) [a] [] pos2] [] pos) (tLRev X.K ta) := by
  intro pins s σ H Q I h
  refine Call_ (ld_blt I hg hm bt_list (PyProof.Rows.callWith_type1 ?_ hs2 rfl))
  rw [hs2]
  refine Calls.spliced_cons ?_
  refine Call_ (ld_blt I hg2 hm2 bt_reversed (PyProof.Rows.callWith_type1 (thn (ha pos2 pins s σ H _ I h) fun us s1 ⟨vs, H1, I1, r1, q1⟩ => ?_) hs rfl))
  obtain ⟨l, xs, e, hS, q⟩ := q1
  subst e
  obtain ⟨u, rfl, ru⟩ := vals1 r1
  cases (show u = Value.ref l from ru)
  obtain ⟨its, rv, pl, hz⟩ := I1.list hS
  have hlen := rv.length
  refine PySem.call_reversed_list pl.isList ?_
  refine Calls.spliced_nil ?_
  have I2 : Inv X pins σ H1 { s1 with heap := s1.heap.push (PySem.revObj l ((its.toArray.size : Int) - 1)) } := I1.kept (t' := s1.toks) fun b o e => Heap.get?_push_of_some _ e
  have st : (s1.heap.push (PySem.revObj l ((its.toArray.size : Int) - 1))).IsRevIter s1.heap.objs.size l ((its.toArray.size : Int) - 1) := ⟨_, Heap.get?_push_size _ rfl, rfl, rfl⟩
  have hne : l ≠ s1.heap.objs.size := by
    obtain ⟨o, e, _⟩ := pl.isList
    exact Nat.ne_of_lt (Heap.lt_size e)
  refine call_list_lri (s := { s1 with heap := s1.heap.push (PySem.revObj l ((its.toArray.size : Int) - 1)) }) (I.ok.hd hc) hne st (pl.isList.push _) (by rw [List.size_toArray]; omega) fun h' tk acc' c' hk hD hacc => ?_
  have ea := items_rev hacc
  have fp : FpOk X pins H1 s1.heap.objs.size := I1.fpOk (Nat.le_refl _) (I1.hok.fresh (Nat.le_refl _))
  obtain ⟨f0, f1, f2, f3, f4, f5⟩ := fp
  have hsz : (s1.heap.push (PySem.revObj l ((its.toArray.size : Int) - 1))).objs.size = s1.heap.objs.size + 1 := Heap.size_push ..
  rw [show ({ s1 with heap := s1.heap.push (PySem.revObj l ((its.toArray.size : Int) - 1)) } : Shared).heap.objs.size = s1.heap.objs.size + 1 from hsz] at hD ⊢
  have I3 : Inv X pins σ H1 { s1 with heap := h', toks := tk } := I2.turned (t' := tk) (fun b o hb e => hk b o hb e) f0 f1 f3 f4 f5
  have hfree : H1 (s1.heap.objs.size + 1) = none := I1.hok.fresh (Nat.le_succ _)
  refine ⟨.ref (s1.heap.objs.size + 1), upd H1 (s1.heap.objs.size + 1) (.lst xs.reverse), ?_, rfl, q _ hfree⟩
  have I4 : Inv X pins σ (upd H1 (s1.heap.objs.size + 1) (.lst xs.reverse)) { s1 with heap := (s1.heap.push (PySem.revObj l ((its.toArray.size : Int) - 1))).push { cls := .type "list", dict := none, data := .seq acc' c', slots := #[] }, toks := tk } := I2.laid (a := s1.heap.objs.size + 1) (o := .lst xs.reverse) (t' := tk) (h' := (s1.heap.push (PySem.revObj l ((its.toArray.size : Int) - 1))).push { cls := .type "list", dict := none, data := .seq acc' c', slots := #[] })
    (fun b o e => Heap.get?_push_of_some _ e) (by rw [hsz]; exact Nat.le_refl _) ⟨by rw [List.length_reverse]; exact hz, its.reverse, c', rv.reverse, by
      have := Heap.get?_push_size (s1.heap.push (PySem.revObj l ((its.toArray.size : Int) - 1))) (o := { cls := .type "list", dict := none, data := .seq acc' c', slots := #[] }) rfl
      rw [hsz] at this
      rw [this, ← ea]⟩
  have key : ∀ b o, b ≠ s1.heap.objs.size → ((s1.heap.push (PySem.revObj l ((its.toArray.size : Int) - 1))).push { cls := .type "list", dict := none, data := .seq acc' c', slots := #[] }).get? b = some o → h'.get? b = some o := fun b o hb e => by
    by_cases hb2 : b = s1.heap.objs.size + 1
    · subst hb2
      have := Heap.get?_push_size (s1.heap.push (PySem.revObj l ((its.toArray.size : Int) - 1))) (o := { cls := .type "list", dict := none, data := .seq acc' c', slots := #[] }) rfl
      rw [hsz] at this
      rw [this] at e; cases e; exact hD
    · refine hk b o hb ?_
      rw [Heap.get?_push_ne _ _ _ (by rw [hsz]; exact hb2)] at e; exact e
  exact Inv.turned (s := { s1 with heap := (s1.heap.push (PySem.revObj l ((its.toArray.size : Int) - 1))).push { cls := .type "list", dict := none, data := .seq acc' c', slots := #[] }, toks := tk }) (h' := h') (t' := tk) I4 key (by rw [upd_ne (Nat.ne_of_lt (Nat.lt_succ_self _))]; exact f0) f1 f3 f4 f5
theorem r_lrev {K : PySem.W.Frag} {σ : St} {H : Hp} {ta : TA} {Q : VK} (h : ta σ H fun vs H1 => ∃ a xs, vs = [.ref a] ∧ SqL K H1 a xs ∧ ∀ l, H1 l = none → Q (.ref l) (upd H1 l (.lst xs.reverse))) : tLRev K ta σ H Q := h

/-! ### o[i] op= e on a list; n.bit_length(); truth of a list -/
theorem get_list : PGet X (rIxL X.K) := by
  intro pins s σ H o i ov iv Q I ro ri h
  obtain ⟨p, xs, k, z, rfl, rfl, hq, he, q⟩ := h
  cases ro
  obtain ⟨t, rfl⟩ := ri
  obtain ⟨its, r, pl, hz⟩ := I.list hq
  obtain ⟨j, h1, h2, h3, h4, h5⟩ := atI_get he
  obtain ⟨w, ew, rw'⟩ := r.get h2
  have hl := r.length
  have hn := line63
  have fin : EP X pins σ Q w s := ⟨z, H, I, rw', q⟩
  by_cases h0 : 0 ≤ k
  · have hj : k.toNat = j := by
      rw [seqIndex_of h0 h5] at h1
      exact Option.some.inj h1
    exact wpAny_getItem_list pl.isList h0 (by omega) (by rw [hj]; simpa using ew) fin
  · have hj : (k + (its.toArray.size : Int)).toNat = j := by
      rw [seqIndex_neg (by omega) h4] at h1
      rw [List.size_toArray, ← hl]
      exact Option.some.inj h1
    exact wpAny_getItem_list_neg pl.isList (by omega) (by rw [List.size_toArray] <;> omega) (by omega) (by rw [hj]; simpa using ew) fin
def rBits : V → List V → Hp → VK → Prop := fun x xs H Q => ∃ i : Int, x = .int i ∧ xs = [] ∧ Q (.int ((Builtin.Int.intBits i : Nat) : Int)) H
theorem mt_bits : MtR X "int.bit_length" rBits := by
  intro pins s σ H x xs v us Q I rx rv h
  obtain ⟨i, rfl, rfl, q⟩ := h
  obtain ⟨t, rfl⟩ := rx
  have hus := rv.zero
  subst hus
  exact PyProof.Rows.call_int_bit_length ⟨.int _, H, I.tok _, ⟨_, rfl⟩, q⟩
end
section
variable {K : PySem.W.Frag} {σ : St} {H : Hp} {D : Ends} {Q : VK} {te : TE} {i : Nat}
theorem r_aug {tip : TIp} {x : V} (hx : σ[i]? = some (some x)) (h : te σ H fun y H1 => tip x y H1 fun z H2 => D.nx (σ.set i (some z)) H2) : tAug i te tip D σ H := ⟨x, hx, h⟩
theorem r_ipI {f : Int → Int → Int} {a b : Int} (h : Q (.int (f a b)) H) : ipI f (.int a) (.int b) H Q := ⟨a, b, rfl, rfl, h⟩
theorem r_augS {to ti te : TE} {tget : V → V → Hp → VK → Prop} {tip : TIp} {tset : TSet} (h : to σ H fun o H1 => ti σ H1 fun i H2 => tget o i H2 fun x H3 => te σ H3 fun y H4 => tip x y H4 fun z H5 => tset o i z H5 fun H6 => D.nx σ H6) : tAugS to ti te tget tip tset D σ H := h
theorem r_bits {n : Int} (h : Q (.int ((Builtin.Int.intBits n : Nat) : Int)) H) : rBits (.int n) [] H Q := ⟨n, rfl, rfl, h⟩
def tTru (K : PySem.W.Frag) (ta : TE) : TT := fun σ H Q => ta σ H fun x H' => ∃ k, TruV K x H' k ∧ Q k H'
theorem pt_tru {X : Cx} {a : Expr} {ta : TE} (ha : PE X a ta) (he : ∀ whole, isTrue a X.env whole = (do let v ← whole; standAt a.pos; holding [v] (truthy v))) : PT X a (tTru X.K ta) := pt_truth ha he
theorem r_tru {QT : Bool → Hp → Prop} (h : te σ H fun x H' => ∃ k, TruV K x H' k ∧ QT k H') : tTru K te σ H QT := h
theorem r_truL {a : Addr} {xs : List V} {QT : Bool → Prop} (s : SqL K H a xs) (h : QT (!xs.isEmpty)) : ∃ k, TruV K (.ref a) H k ∧ QT k := ⟨_, .inl ⟨xs, s, rfl⟩, h⟩
theorem r_chain {r r' : R2} {ta tb tc : TE} (h : ta σ H fun x H1 => tb σ H1 fun y H2 => r x y H2 fun z H3 => ∃ k, z = .bl k ∧ (if k = true then tc σ H3 fun w' H4 => r' y w' H4 Q else Q (.bl false) H3)) : tChain r r' ta tb tc σ H Q := h
end
end L2

set_option Elab.async false
set_option linter.all false
set_option maxRecDepth 100000
set_option autoImplicit false
namespace L2
open PySem PySem.Spec PyProof.Rows

/-! ### what is tracked is there -/
theorem ObjOk.get {P : Program} {w : World} {H : Hp} {h : Heap} {a : Addr} {o : HO} (x : ObjOk P w H h a o) : ∃ ob, h.get? a = some ob := by
  have := x.lt
  induction o with
  | lst xs => obtain ⟨_, _, _, _, e⟩ := x; exact ⟨_, e⟩
  | tup xs => obtain ⟨_, _, _, ob, e, _⟩ := x; exact ⟨_, e⟩
  | dK kvs => obtain ⟨_, _, _, _, ob, _, _, e, _⟩ := x; exact ⟨_, e⟩
  | dT kvs => obtain ⟨_, _, _, _, ob, _, _, e, _⟩ := x; exact ⟨_, e⟩
  | set S n => obtain ⟨ob, _, _, _, e, _⟩ := x; exact ⟨_, e⟩
  | ins C dx fs => obtain ⟨_, _, _, e, _⟩ := x; exact ⟨_, e⟩
  | own b => exact x
  | xd fs => obtain ⟨_, ⟨ob, _, _, e, _⟩, _⟩ := x; exact ⟨_, e⟩
  | rng lo hi => obtain ⟨_, _, _, e⟩ := x; exact ⟨_, e⟩
  | frz ob u ih => exact ⟨_, x.1⟩
  | tbl ps => exact ⟨_, x⟩
  | met f y => exact ⟨_, x⟩
  | ext φ => exact x.2.1

/-! ### an exception that flies: B is all that stays as it is while it flies -/
def CXf (P : Program) (w : World) : CXT := fun outer H s E e s' => ∃ (a : Addr) (cls a0 : Value) (H' : Hp) (B : Heap), e = .ref a ∧ s'.os = s.os ∧ AllBare s'.gens ∧ Heap.FlyingW B outer a cls a0 s'.heap ∧ H' a = none ∧ s.heap.get? a = none ∧
  (∀ h'' : Heap, B.StaysIn h'' → s'.heap.UpToSlots h'' → Un (frs outer) [] H H' s.heap h'' ∧ HOk P w H' h'') ∧ E cls none H'

/-- an exception that leaves the body: E is wanted of it -/
structure Leaves (X : Cx) (E : XK) : Prop where
  xe : ∀ e s', wpAny (model X.prog X.w) X.A (leaving X.env e) (fun _ s'' => CXf X.prog X.w X.outer X.H₀ X.s₀ E e s'') (fun e' s'' => CXf X.prog X.w X.outer X.H₀ X.s₀ E e' s'') s' → X.xe e s'
  stk : X.stack = X.env :: X.outer
  fr : X.env.frame = some X.env.locals
  ex : X.ex = []
  calm : X.calm = true
section
variable {X : Cx} {pins : List (Addr × Obj)} {σ : St} {H : Hp} {s : Shared} {E Ec : XK}
theorem Inv.inStack (I : Inv X pins σ H s) : s.heap.FunFrames (PySem.W.hideAll s.heap (frs X.stack)) X.stack :=
  PySem.W.funFrames_hide I.stack fun env he a hf => List.mem_filterMap.mpr ⟨env, he, hf⟩
/-- what stays while the exception flies holds the state -/
theorem Inv.flown (I : Inv X pins σ H s) (L : Leaves X E) {h1 h2 h3 : Heap} (k1 : ∀ b o, s.heap.get? b = some o → h1.get? b = some o) (k2 : h1.UpToSlots h2) (hB : (PySem.W.hideAll s.heap (frs X.stack)).StaysIn h3) (k3 : h2.UpToSlots h3) :
    Un (frs X.outer) [] X.H₀ H X.s₀.heap h3 ∧ HOk X.prog X.w H h3 := by
  have up : s.heap.UpToSlots h3 := ((Heap.UpToSlots.of_keeps k1).trans k2).trans k3
  have st : ∀ b o, s.heap.get? b = some o → b ∉ frs X.stack → h3.get? b = some o := fun b o e n => hB b o (PySem.W.hideAll_get _ e n)
  have noex : ∀ b, b ∉ X.ex := fun b z => by rw [L.ex] at z; cases z
  refine ⟨⟨fun b o e n hb _ => ?_, fun b o e n hb _ => ?_, fun b o e n _ => I.base.free b o e n (noex b), fun b o e _ => ?_, I.base.tups, I.base.frzs, I.base.tbls⟩, fun b u e => ?_⟩
  · refine st b o (I.base.keep b o e n hb (noex b)) fun hm => ?_
    rcases List.mem_cons.mp (I.stkSub b hm) with z | z
    · have := Nat.lt_of_lt_of_le (Heap.lt_size e) I.ok.above
      rw [z] at this; exact absurd this (Nat.lt_irrefl _)
    · exact hb z
  · obtain ⟨sl, e1⟩ := I.base.slot b o e n hb (noex b)
    obtain ⟨_, o', ho', hd⟩ := I.ok.funs.mem hb
    rw [e] at ho'; cases ho'
    obtain ⟨sl', e2⟩ := up b _ e1 hd
    exact ⟨sl', e2⟩
  · obtain ⟨o', e1⟩ := I.base.there b o e (noex b)
    by_cases hm : b ∈ frs X.stack
    · obtain ⟨_, o2, ho2, hd⟩ := I.stack.mem hm
      obtain ⟨sl, e2⟩ := up b _ ho2 hd
      exact ⟨_, e2⟩
    · exact ⟨_, st b _ e1 hm⟩
  · refine (I.hok b u e).stay (fun c v hc q => st c v q fun hm => ?_) (fun _ q => q) fun _ _ q => q
    have n := I.stkFree c hm
    rcases hc with z | z
    · rw [z, e] at n; cases n
    · rw [z] at n; cases n
/-- raised here -/
theorem Inv.raised (I : Inv X pins σ H s) (L : Leaves X E) {a : Addr} {cls : Value} {vs : List Value} {h1 : Heap} (hx : Heap.MadeExcOf s.heap h1 a cls vs) (hE : E cls none H) : X.xe (.ref a) { s with heap := h1 } := by
  refine L.xe _ _ ?_
  have hfr : X.A.frames = some (X.env :: X.outer) := by rw [I.ok.frames, L.stk]
  have hl : s.heap.FunFrames (PySem.W.hideAll s.heap (frs X.stack)) (X.env :: X.outer) := by rw [← L.stk]; exact I.inStack
  have hn : H a = none := by
    cases q : H a with
    | none => rfl
    | some o =>
      obtain ⟨ob, e⟩ := (I.hok a o q).get
      rw [hx.new] at e; cases e
  refine wpAny_leaves_madeW (s := { s with heap := h1 }) hfr L.fr (fun b o q => PySem.W.of_hideAll _ q) hl hx fun h2 t x1 x2 x3 x4 => ?_
  have h0 : X.s₀.heap.get? a = none := by
    cases q : X.s₀.heap.get? a with
    | none => rfl
    | some o =>
      obtain ⟨o', e⟩ := I.base.there a o q (by rw [L.ex]; simp)
      rw [hx.new] at e; cases e
  exact ⟨a, cls, _, H, _, rfl, I.os, I.bare, x1, hn, h0, fun h3 hB k3 => I.flown L hx.keeps x4 hB k3, hE⟩
/-- a callee's exception goes on -/
theorem Leaves.pass (L : Leaves X E) (h : ∀ cls d H', Ec cls d H' → E cls d H') : Passes (CXf X.prog X.w) X Ec := by
  intro pins σ H s e s' I hcx
  obtain ⟨a, cls, a0, H', B, rfl, os, bare, hfl, hn, hnew, hcl, hE⟩ := hcx
  refine L.xe _ _ ?_
  have h0 : X.s₀.heap.get? a = none := by
    cases q : X.s₀.heap.get? a with
    | none => rfl
    | some o =>
      obtain ⟨o', e⟩ := I.base.there a o q (by rw [L.ex]; simp)
      rw [hnew] at e; cases e
  have hfr : X.A.frames = some (X.env :: X.outer) := by rw [I.ok.frames, L.stk]
  rw [L.stk] at hfl
  refine wpAny_leaves_onW hfr L.fr hfl fun h2 x1 x2 => ?_
  refine ⟨a, cls, a0, H', B, rfl, os.trans I.os, bare, x1, hn, h0, fun h3 hB k3 => ?_, h _ _ _ hE⟩
  obtain ⟨un, ok⟩ := hcl h3 hB (x2.trans k3)
  have J : Inv X pins σ H' { s' with heap := h3 } := I.call' (ch := []) os un ok bare fun b hb => nomatch hb
  have := J.base
  rw [L.ex] at this
  exact ⟨this, ok⟩
theorem PS.nox {st : Stmt} {t : TS} (h : PS X.nox st t) : PS X st t := fun pins s σ H D I hw =>
  wpAny_mono (h pins s σ H D (I.wish _) hw) (fun _ _ q => q.unwish) fun _ _ z => False.elim z
end
/-- a def that may raise: its body as a term of rules, and the reading of that term -/
theorem Fun.okx {P : Program} {w : World} {K : PySem.W.Frag} {mg : Str → Option Value} {base : Heap} {x qual : Str} {st : Stmt} {f : Addr} {fd : FuncData} {N ps : List Str} {k : Nat} {sp : Sp} (F : Fun K x qual st f fd) (S : FnScope N ps (defScope st)) (len : ∀ vs H Q E, sp vs H Q E → vs.length = ps.length)
    (hbody : ∀ (cdv : Value) (A : Around) (outer : List Env) (s : Shared) (H : Hp) (vs : List V) (Q : VK) (E : XK), Room k (A.deeper (envOfC qual (defScope st) s.heap.objs.size f cdv)) → sp vs H Q E →
      ∃ t, PSs (cxOf (CXf P w) P w K mg base N qual (defScope st) f cdv A outer s H E) (defBody st) t ∧ t { nx := fun _ H' => Q .non H', rt := Q } (start N vs) H) : FnOk P w K mg base (CXf P w) (k + 1) f fd ps sp := by
  obtain ⟨oc, od, kV, doc, pm, an, cdv, ct, osl, rfl, lk, hcd⟩ := F.ex
  exact fn_of lk hcd S len fun A outer s H vs Q E hr hsp => hbody cdv A outer s H vs Q E hr hsp
theorem leaves_of {P : Program} {w : World} {K : PySem.W.Frag} {mg : Str → Option Value} {base : Heap} {N : List Str} {qual : Str} {scope : Scope} {f : Addr} {cd : Value} {A : Around} {outer : List Env} {s : Shared} {H : Hp} {E : XK} :
    Leaves (cxOf (CXf P w) P w K mg base N qual scope f cd A outer s H E) E := ⟨fun _ _ h => h, rfl, rfl, rfl, rfl⟩

/-! ### raise C(..) -/
theorem own_cls {K : PySem.W.Frag} {h : Heap} {mg : Str → Option Value} {x : Str} {C : Addr} {bmB : List Value} {newId : String} (X : K.In h) (hm : mg x = some (.ref C)) (q : PySem.W.excIn K C bmB newId = true) : OwnCls x C bmB newId mg h := by
  refine ⟨hm, ?_⟩
  unfold PySem.W.excIn at q
  split at q
  case h_2 => cases q
  case h_1 dd cd sl ho =>
  split at q
  case h_2 => cases q
  case h_1 C' bm k0 k1 k2 k3 n k5 hmr hs =>
  simp only [Bool.and_eq_true, beq_iff_eq, Bool.not_eq_true'] at q
  obtain ⟨⟨⟨⟨⟨rfl, rfl⟩, hdel⟩, ht⟩, hok⟩, hni⟩ := q
  obtain ⟨nm, bs, mro, ns, qn, hd, sn, sub, ab, col, del⟩ := cd
  dsimp only at hmr hdel hok hni
  subst hmr hdel
  have hsl : sl = #[k0, k1, k2, k3, some (.builtin n), k5] := by
    obtain ⟨l⟩ := sl
    simp only at hs
    rw [hs]
  subst hsl
  exact ⟨bm, ns, nm, qn, bs, hd, sn, sub, ab, col, dd, k0, k1, k2, k3, k5, _, X _ _ ho, .of_isNs (PySem.W.isNs_of_in X hok), PySem.W.nsMap_none_of_in X hok hni, PySem.W.tail_of_in X ht⟩
section
variable {X : Cx} {E : XK} {x : Str} {C : Addr} {bmB bmN : List Value} {newId nid initId inN Bn B : String} {np cpos pos : Pos} {e : Expr} {es : List Expr} {t : TA}
def tRaise (C : Addr) (E : XK) (t : TA) : TS := fun _ σ H => t σ H fun vs H1 => vs.length ≤ sizeLine ∧ E (.ref C) none H1
theorem ps_raise (L : Leaves X E) (hg : Gl X x) (hm : X.mg x = some (.ref C)) (hq : PySem.W.excIn X.K C bmB newId = true) (Fn : ExcBaseFacts Bn newId inN bmN) (hBn : bmB.contains (.type Bn) = true) (FB : ExcBaseFacts B nid initId bmB)
    (ha : PA X (e :: es) t) (he : starEach (e :: es) X.env = (false, eval e X.env) :: starEach es X.env := by rfl) (hpl : (backTo cpos (starEach es X.env)).any (·.1) = false := by rfl) (hd : (x == ("__debug__" : Str)) = false := by decide) :
    PS X (.Raise (some (.Call (.Name x np) (e :: es) [] cpos)) none pos) (tRaise C E t) := by
  intro pins s σ H D I h
  obtain ⟨tl, N, nm, q, bs, hdct, sn, sub, ab, col, dd, k0, k1, k2, k3, k5, mN, hC, hN, hni, T⟩ := (own_cls (mg := X.mg) I.ok.mod.kin hm hq).obj
  refine wpAny_Raise_call_subU (C := C) (nm := nm) (q := q) (N := N) (bs := bs) (bm := tl) (hdct := hdct) (sn := sn) (sub := sub) (ab := ab) (col := col) (dd := dd) (k0 := k0) (k1 := k1) (k2 := k2) (k3 := k3) (k5 := k5)
    Fn hBn FB (mN := mN) (T.hasType FB.hasBase) (I.ok.hd L.calm) (by rw [he]; show (false || (backTo cpos (starEach es X.env)).any (·.1)) = false; rw [hpl]; rfl) hni (ld_glob I hg hm ⟨rfl, ?_⟩ hd)
  have hA := ha cpos pins s σ H _ I h
  rw [he] at hA ⊢
  refine Calls.evalArgs_plain (thn hA fun us s1 ⟨vs, H1, I1, r1, hz, hE⟩ => ?_)
  exact ⟨rfl, by rw [← r1.length]; exact hz, I1.bk _ _ hC, hN.keeps I1.bk, T.keeps I1.bk, fun h' a hmk => I1.raised L hmk hE⟩
theorem r_raise {D : Ends} {σ : St} {H : Hp} (h : t σ H fun vs H1 => vs.length ≤ sizeLine ∧ E (.ref C) none H1) : tRaise C E t D σ H := h
end

/-! ### try .. except -/
/-- an exception of this class lies at a -/
def exAt (a : Addr) (cls : Value) (h : Heap) : Prop := ∃ o, h.get? a = some o ∧ o.cls = cls
abbrev xo (a : Addr) (cls : Value) : HO := .ext (exAt a cls)
/-- within an except suite -/
abbrev Cx.xm (X : Cx) (a : Addr) : Cx := { X with A := X.A.mark (some (.ref a)), calm := false, xe := fun _ _ => False }
/-- nothing is known of the names -/
def bl0 (X : Cx) : St := X.N.map fun _ => none
section
variable {X : Cx} {pins : List (Addr × Obj)} {σ : St} {H : Hp} {s : Shared}
theorem Inv.xm (I : Inv X pins σ H s) (a : Addr) : Inv (X.xm a) pins σ H s :=
  ⟨⟨I.ok.mod, I.ok.kind, I.ok.glob, I.ok.blt, I.ok.above, I.ok.inj, I.ok.has, I.ok.cab, (fun z => nomatch z), I.ok.frames, I.ok.stk, I.ok.exf, I.ok.bs, I.ok.bsz, I.ok.noex, I.ok.exfs, I.ok.funs, I.ok.frf⟩, I.os, I.bare, I.base, I.loc, I.cell, I.free, I.freeC, I.pin, I.hok, I.len⟩
theorem Inv.unxm {a : Addr} (I : Inv (X.xm a) pins σ H s) (hd : X.calm = true → X.A.handled = none) : Inv X pins σ H s :=
  ⟨⟨I.ok.mod, I.ok.kind, I.ok.glob, I.ok.blt, I.ok.above, I.ok.inj, I.ok.has, I.ok.cab, hd, I.ok.frames, I.ok.stk, I.ok.exf, I.ok.bs, I.ok.bsz, I.ok.noex, I.ok.exfs, I.ok.funs, I.ok.frf⟩, I.os, I.bare, I.base, I.loc, I.cell, I.free, I.freeC, I.pin, I.hok, I.len⟩
theorem bl0_none {i : Nat} {v : V} (h : (bl0 X)[i]? = some (some v)) : False := by
  unfold bl0 at h
  rw [List.getElem?_map] at h
  cases e : X.N[i]? with
  | none => rw [e] at h; cases h
  | some x => rw [e] at h; cases h
theorem Inv.blank (I : Inv X pins σ H s) : Inv X pins (bl0 X) H s := I.weak (by unfold bl0; rw [List.length_map, I.len]) fun i v e => (bl0_none e).elim
/-- the exception is tracked -/
theorem Inv.exc (I : Inv X pins σ H s) {a : Addr} {cls : Value} (hn : H a = none) (hx : ∃ o vs, s.heap.get? a = some o ∧ o.cls = cls ∧ o.data = .fields vs) (h0 : X.s₀.heap.get? a = none) (hp : ∀ p ∈ X.pn ++ pins, p.1 ≠ a) : Inv X pins σ (upd H a (xo a cls)) s := by
  obtain ⟨o, vs, ho, hc, hd⟩ := hx
  have ne : ∀ b u, H b = some u → b ≠ a := fun b u e z => by rw [z, hn] at e; cases e
  refine ⟨I.ok, I.os, I.bare, ⟨I.base.keep, I.base.slot, fun b ob e n hx => ?_, I.base.there, fun b xs q => ?_, fun b ob u q => ?_, fun b ps q => ?_⟩, I.loc, I.cell, ?_, fun x c e => ?_, fun p hm => ?_, fun b u e => ?_, I.len⟩
  · rw [upd_ne (fun z => by rw [z, h0] at e; cases e)]; exact I.base.free b ob e n hx
  · have q' := I.base.tups b xs q
    rw [upd_ne (ne _ _ q')]; exact q'
  · have q' := I.base.frzs b ob u q
    rw [upd_ne (ne _ _ q')]; exact q'
  · obtain ⟨m, q'⟩ := I.base.tbls b ps q
    exact ⟨m, by rw [upd_ne (ne _ _ q')]; exact q'⟩
  · refine (upd_ne fun z => ?_).trans I.free
    obtain ⟨m, ⟨oL, es, ep, hoL, hdL, _⟩, _⟩ := I.loc
    rw [z, ho] at hoL; cases hoL; rw [hd] at hdL; cases hdL
  · refine (upd_ne fun z => ?_).trans (I.freeC x c e)
    obtain ⟨v, oc, hoc, hdc⟩ := I.cell x c e
    rw [z, ho] at hoc; cases hoc; rw [hd] at hdc; cases hdc
  · obtain ⟨e1, e2, e3, e4, e5⟩ := I.pin p hm
    exact ⟨e1, by rw [upd_ne (hp p hm)]; exact e2, e3, e4, e5⟩
  · by_cases z : b = a
    · subst z
      rw [upd_same] at e
      cases e
      exact ⟨⟨o, ho, hc⟩, ⟨o, ho⟩, fun h1 h2 ⟨o1, q1, q2⟩ k => ⟨o1, k o1 q1, q2⟩⟩
    · rw [upd_ne z] at e
      refine (I.hok b u e).stay (fun _ _ _ q => q) (fun c q => ?_) fun c xs q => ?_
      · rw [upd_ne (ne _ _ q)]; exact q
      · rw [upd_ne (ne _ _ q)]; exact q
/-- the names are changed, how is not known -/
theorem Inv.gone (I : Inv X pins σ H s) {h' : Heap} {m' : Str → Option Value} {t : Nat} (hn : h'.Ns X.env.locals m') (hs : Heap.SameBut X.env.locals s.heap h') : Inv X pins (bl0 X) H { s with heap := h', toks := t } := by
  have lo : ∀ b o, X.s₀.heap.get? b = some o → b ≠ X.env.locals := fun b o e => Nat.ne_of_lt (Nat.lt_of_lt_of_le (Heap.lt_size e) I.ok.above)
  refine ⟨I.ok, I.os, I.bare, ⟨fun b o e n hb hx => (hs.2 b (lo b o e)).trans (I.base.keep b o e n hb hx), fun b o e n hb hx => ?_, I.base.free, fun b o e hx => ?_, I.base.tups, I.base.frzs, I.base.tbls⟩, ⟨m', hn, fun i x v _ e _ => (bl0_none e).elim⟩, fun x c e => ?_, I.free, I.freeC, fun p hp => ?_, fun b u e => ?_, by unfold bl0; rw [List.length_map]⟩
  · obtain ⟨sl, e1⟩ := I.base.slot b o e n hb hx
    exact ⟨sl, (hs.2 b (lo b o e)).trans e1⟩
  · obtain ⟨o', e1⟩ := I.base.there b o e hx
    exact ⟨o', (hs.2 b (lo b o e)).trans e1⟩
  · obtain ⟨w', z⟩ := I.cell x c e
    exact ⟨w', z.sameBut hs (I.cne x c e)⟩
  · obtain ⟨e, n, ne, nf, d⟩ := I.pin p hp
    exact ⟨(hs.2 p.1 ne).trans e, n, ne, nf, d⟩
  · refine (I.hok b u e).stay (fun c v hc q => (hs.2 c fun z => ?_).trans q) (fun _ q => q) fun _ _ q => q
    have n := I.free
    rcases hc with y | y
    · rw [← z, y, e] at n; cases n
    · rw [← z, y] at n; cases n
end
/-- an exception has come to this frame -/
def Land (X : Cx) (pins : List (Addr × Obj)) (H : Hp) (a : Addr) (cls : Value) (s : Shared) : Prop := ∃ (a0 : Value) (B : Heap), Heap.FlyingW B X.stack a cls a0 s.heap ∧ H a = none ∧ X.s₀.heap.get? a = none ∧ (∀ p ∈ X.pn ++ pins, p.1 ≠ a) ∧
  ∀ (h'' : Heap) (t : Nat), B.StaysIn h'' → s.heap.UpToSlots h'' → Inv X pins (bl0 X) H { s with heap := h'', toks := t }
theorem Land.on {X : Cx} {pins : List (Addr × Obj)} {H : Hp} {a : Addr} {cls : Value} {s : Shared} {a0 : Value} {B : Heap} (hn : H a = none) (h0 : X.s₀.heap.get? a = none) (hp : ∀ p ∈ X.pn ++ pins, p.1 ≠ a)
    (cl : ∀ (h'' : Heap) (t : Nat), B.StaysIn h'' → s.heap.UpToSlots h'' → Inv X pins (bl0 X) H { s with heap := h'', toks := t }) {h1 : Heap} (f : Heap.FlyingW B X.stack a cls a0 h1) (u : s.heap.UpToSlots h1) : Land X pins H a cls { s with heap := h1 } :=
  ⟨a0, B, f, hn, h0, hp, fun h'' t hB k => cl h'' t hB (u.trans k)⟩
abbrev TH := Value → Addr → Hp → Ends → Prop
def PH (X : Cx) (hs : List ExceptHandler) (t : TH) : Prop := ∀ (pins : List (Addr × Obj)) (s : Shared) (H : Hp) (D : Ends) (a : Addr) (cls : Value), Land X pins H a cls s → t cls a H D → wpAny (model X.prog X.w) X.A (handleBy (.ref a) X.env hs) (SP X pins D) X.xe s
def HT (X : Cx) (tt : Expr) (cs : List Value) : Prop := ∀ (pins : List (Addr × Obj)) (σ : St) (H : Hp) (s : Shared) (a : Addr) (cls : Value) (b : Bool) (Q : Bool → Shared → Prop) (E : Value → Shared → Prop), Inv X pins σ H s →
  PySem.W.Looks (model X.prog X.w) s.heap (typeOf (.ref a)) cls → PySem.W.exmAny X.K cls cs = some b → (∀ h', (∀ q o, s.heap.get? q = some o → h'.get? q = some o) → Q b { s with heap := h' }) →
  wpAny (model X.prog X.w) (X.A.mark (some (.ref a))) (eval tt X.env) (fun c s1 => wpAny (model X.prog X.w) (X.A.mark (some (.ref a))) (excMatches (.ref a) c) Q E s1) E s
section
variable {X : Cx} {tt : Expr} {cs : List Value} {b0 : Stmt} {suite : List Stmt} {pos : Pos} {rest : List ExceptHandler} {tr : TH} {ts : TS} {n : Str} {i : Nat}
theorem ht_name {x : Str} {np : Pos} {c : Value} (hg : Gl X x) (hm : X.mg x = some c) (hd : (x == ("__debug__" : Str)) = false := by decide) : HT X (.Name x np) [c] := by
  intro pins σ H s a cls b Q E I LT he q
  obtain ⟨b1, d1, e1, e2, e3⟩ := PySem.W.exmAny_cons he
  have e4 : some false = some d1 := e2
  cases e4
  rw [Bool.or_false] at e3
  subst e3
  exact ld_glob (X := X.xm a) (I.xm a) hg hm ((PySem.W.exm_one I.kIn LT e1).here (q s.heap fun _ _ z => z)) hd
theorem ht_tup4 {x1 x2 x3 x4 : Str} {p1 p2 p3 p4 tp : Pos} {c1 c2 c3 c4 : Value} {kk : Nat} (g1 : Gl X x1) (m1 : X.mg x1 = some c1) (g2 : Gl X x2) (m2 : X.mg x2 = some c2) (g3 : Gl X x3) (m3 : X.mg x3 = some c3) (g4 : Gl X x4) (m4 : X.mg x4 = some c4)
    (d1 : (x1 == ("__debug__" : Str)) = false := by decide) (d2 : (x2 == ("__debug__" : Str)) = false := by decide) (d3 : (x3 == ("__debug__" : Str)) = false := by decide) (d4 : (x4 == ("__debug__" : Str)) = false := by decide) :
    HT X (.Tuple [.Name x1 p1, .Name x2 p2, .Name x3 p3, .Name x4 p4] kk tp) [c1, c2, c3, c4] := by
  intro pins σ H s a cls b Q E I LT he q
  have J := I.xm a
  refine wpAny_Tuple (wpAny_items_cons (ld_glob (X := X.xm a) J g1 m1 (wpAny_items_cons (ld_glob (X := X.xm a) J g2 m2 (wpAny_items_cons (ld_glob (X := X.xm a) J g3 m3 (wpAny_items_cons (ld_glob (X := X.xm a) J g4 m4 (wpAny_items_nil ⟨(by show 4 ≤ sizeLine; decide), ?_⟩) d4)) d3)) d2)) d1))
  have kp : ∀ q o, s.heap.get? q = some o → (s.heap.push { cls := .type "tuple", data := .seq [c1, c2, c3, c4].toArray }).get? q = some o := fun _ _ z => Heap.get?_push_of_some _ z
  exact (PySem.W.exm_tup4 (I.kIn.keeps kp) (LT.keeps kp) (Heap.get?_push_size s.heap rfl) he).here (q _ kp)
/-- the suite only returns -/
abbrev Ends.back (D : Ends) : Ends := { nx := fun _ _ => False, rt := D.rt }
def tHit (K : PySem.W.Frag) (cs : List Value) (f : Addr → Ends → Hp → Prop) (tr : TH) : TH := fun cls a H D => ∃ b, PySem.W.exmAny K cls cs = some b ∧ if b = true then f a D.back (upd H a (xo a cls)) else tr cls a H D
theorem fly_ty {M : Model} {B h : Heap} {l : List Env} {a : Addr} {cls a0 : Value} (f : Heap.FlyingW B l a cls a0 h) : PySem.W.Looks M h (typeOf (.ref a)) cls := by
  obtain ⟨ob, hob, hc⟩ := f.there
  subst hc
  exact (PySem.W.Looks.ld hob).andThen .now
theorem fly_at {B h : Heap} {l : List Env} {a : Addr} {cls a0 : Value} (f : Heap.FlyingW B l a cls a0 h) : ∃ o vs, h.get? a = some o ∧ o.cls = cls ∧ o.data = .fields vs := by
  obtain ⟨oe, vs, h1, h2, h3, _⟩ := f.first
  exact ⟨oe, vs, h1, h2, h3⟩
theorem ph_cons0 (hd : X.calm = true → X.A.handled = none) (ht : HT X tt cs) (hsu : ∀ a, PSs (X.xm a) (b0 :: suite) ts) (hr : PH X rest tr) :
    PH X (.ExceptHandler (some tt) none (b0 :: suite) pos :: rest) (tHit X.K cs (fun _ D H => ts D (bl0 X) H) tr) := by
  intro pins s H D a cls land h
  obtain ⟨b, hb, h⟩ := h
  have land0 := land
  obtain ⟨a0, B, f, hn, h0, hp, cl⟩ := land
  have I0 : Inv X pins (bl0 X) H s := cl s.heap s.toks f.1 (Heap.UpToSlots.refl _)
  refine wpAny_handleBy_cons (codeAny_handlers_test (ht pins _ H s a cls b _ _ I0 (fly_ty f) hb fun h1 kp => ?_)) (by intro q; cases q)
  have f1 := PySem.W.flying_keeps f kp
  cases b with
  | false => exact hr pins _ H D a cls (Land.on hn h0 hp cl f1 (Heap.UpToSlots.of_keeps kp)) h
  | true =>
    refine codeAny_handlers_suite (lands_againW f1 fun h2 f2 u2 => ?_)
    have I2 : Inv X pins (bl0 X) H { s with heap := h2 } := cl h2 s.toks f2.1 ((Heap.UpToSlots.of_keeps kp).trans u2)
    have I3 := (I2.exc hn (fly_at f2) h0 hp).xm a
    refine wpAny_mono (hsu a pins _ _ _ _ I3 h) (fun fl s3 q => ?_) fun _ _ z => False.elim z
    cases fl with
    | ret u =>
      obtain ⟨v, σ', H', I', r, q⟩ := q
      exact ⟨v, σ', H', I'.unxm hd, r, q⟩
    | next => obtain ⟨_, _, _, q⟩ := q; exact q.elim
    | brk => obtain ⟨_, _, _, q⟩ := q; exact q.elim
    | cont => obtain ⟨_, _, _, q⟩ := q; exact q.elim
theorem ph_cons1 (hd : X.calm = true → X.A.handled = none) (hN : X.N.Nodup) (hi : X.N[i]? = some n) (hx : X.env.scope.names.lookup n = some .local) (ht : HT X tt cs) (hsu : ∀ a, PSs (X.xm a) (b0 :: suite) ts) (hr : PH X rest tr) :
    PH X (.ExceptHandler (some tt) (some n) (b0 :: suite) pos :: rest) (tHit X.K cs (fun a D H => ts D ((bl0 X).set i (some (.ref a))) H) tr) := by
  intro pins s H D a cls land h
  obtain ⟨b, hb, h⟩ := h
  have land0 := land
  obtain ⟨a0, B, f, hn, h0, hp, cl⟩ := land
  have I0 : Inv X pins (bl0 X) H s := cl s.heap s.toks f.1 (Heap.UpToSlots.refl _)
  refine wpAny_handleBy_cons (codeAny_handlers_test (ht pins _ H s a cls b _ _ I0 (fly_ty f) hb fun h1 kp => ?_)) (by intro q; cases q)
  have f1 := PySem.W.flying_keeps f kp
  cases b with
  | false => exact hr pins _ H D a cls (Land.on hn h0 hp cl f1 (Heap.UpToSlots.of_keeps kp)) h
  | true =>
    refine codeAny_handlers_suite_as (lands_againW f1 fun h2 f2 u2 => ?_)
    have I2 : Inv X pins (bl0 X) H { s with heap := h2 } := cl h2 s.toks f2.1 ((Heap.UpToSlots.of_keeps kp).trans u2)
    have I3 := (I2.exc hn (fly_at f2) h0 hp).xm a
    refine store_ok (X := X.xm a) I3 hN hi (.inl hx) (v := .ref a) rfl (fun s3 I4 => ?_) (.inr hx)
    refine wpAny_mono (hsu a pins _ _ _ _ I4 h) (fun fl s4 q => ?_) fun _ _ z => False.elim z
    cases fl with
    | ret u =>
      obtain ⟨v, σ', H', I', r, q⟩ := q
      have I5 : Inv X pins σ' H' s4 := I'.unxm hd
      obtain ⟨m, hm, _⟩ := id I5.loc
      refine wpAny_nameGoes hx hm (by rw [I5.ok.kind]; rfl) fun h5 m5 hm5 hs5 => ?_
      exact ⟨v, _, H', I5.gone hm5 hs5, r, q⟩
    | next => obtain ⟨_, _, _, q⟩ := q; exact q.elim
    | brk => obtain ⟨_, _, _, q⟩ := q; exact q.elim
    | cont => obtain ⟨_, _, _, q⟩ := q; exact q.elim
theorem ph_nil : PH X [] (fun _ _ _ _ => False) := fun _ _ _ _ _ _ _ h => h.elim
/-- the body in a try: its pins stand fast, its exceptions go to the clauses -/
abbrev Cx.trx (X : Cx) (pn : List (Addr × Obj)) (xe : Value → Shared → Prop) : Cx := { X with pn := pn, xe := xe }
def tTry (tb : XK → TS) (th : TH) : TS := fun D σ H => ∃ Ec : XK, tb Ec D σ H ∧ ∀ cls d H', Ec cls d H' → ∀ a, H' a = none → th cls a H' D
section
variable {pins : List (Addr × Obj)} {σ : St} {H : Hp} {s : Shared} {xe : Value → Shared → Prop}
theorem Inv.trx (I : Inv X pins σ H s) (xe : Value → Shared → Prop) : Inv (X.trx (X.pn ++ pins) xe) [] σ H s :=
  ⟨⟨I.ok.mod, I.ok.kind, I.ok.glob, I.ok.blt, I.ok.above, I.ok.inj, I.ok.has, I.ok.cab, I.ok.hd, I.ok.frames, I.ok.stk, I.ok.exf, I.ok.bs, I.ok.bsz, I.ok.noex, I.ok.exfs, I.ok.funs, I.ok.frf⟩, I.os, I.bare, I.base, I.loc, I.cell, I.free, I.freeC, fun p hp => I.pin p (by simpa using hp), I.hok, I.len⟩
theorem Inv.untr {ps : List (Addr × Obj)} (I : Inv (X.trx (X.pn ++ pins) xe) ps σ H s) : Inv X pins σ H s :=
  ⟨⟨I.ok.mod, I.ok.kind, I.ok.glob, I.ok.blt, I.ok.above, I.ok.inj, I.ok.has, I.ok.cab, I.ok.hd, I.ok.frames, I.ok.stk, I.ok.exf, I.ok.bs, I.ok.bsz, I.ok.noex, I.ok.exfs, I.ok.funs, I.ok.frf⟩, I.os, I.bare, I.base, I.loc, I.cell, I.free, I.freeC, fun p hp => I.pin p (List.mem_append_left _ hp), I.hok, I.len⟩
theorem SP.untr {D : Ends} {f : Flow} {s' : Shared} (h : SP (X.trx (X.pn ++ pins) xe) [] D f s') : SP X pins D f s' := by
  cases f with
  | next => obtain ⟨σ', H', I, q⟩ := h; exact ⟨σ', H', I.untr, q⟩
  | brk => obtain ⟨σ', H', I, q⟩ := h; exact ⟨σ', H', I.untr, q⟩
  | cont => obtain ⟨σ', H', I, q⟩ := h; exact ⟨σ', H', I.untr, q⟩
  | ret u => obtain ⟨v, σ', H', I, r, q⟩ := h; exact ⟨v, σ', H', I.untr, r, q⟩
end
theorem ps_try {body : List Stmt} {h0 : ExceptHandler} {hs : List ExceptHandler} {tb : XK → TS} {th : TH} (stk : X.stack = X.env :: X.outer) (fr : X.env.frame = some X.env.locals) (hex : X.ex = [])
    (hb : ∀ (pn : List (Addr × Obj)) (xe : Value → Shared → Prop) (Ec : XK), Passes (CXf X.prog X.w) (X.trx pn xe) Ec → PSs (X.trx pn xe) body (tb Ec)) (hh : PH X (h0 :: hs) th) :
    PS X (.Try body (h0 :: hs) [] [] pos) (tTry tb th) := by
  intro pins s σ H D I h
  obtain ⟨Ec, h, hc⟩ := h
  refine wpAny_Try_except (wpAny_mono (hb (X.pn ++ pins) (fun e s1 => ∃ (a : Addr) (cls : Value) (H' : Hp), e = .ref a ∧ Land X pins H' a cls s1 ∧ Ec cls none H') Ec ?_ [] s σ H D (I.trx _) h) (fun f s1 q => ?_) fun e s1 q => ?_)
  · intro ps σ' H1 s1 e s2 I1 hcx
    obtain ⟨a, cls, a0, H', B, rfl, os, bare, hfl, hn, hnew, hcl, hE⟩ := hcx
    have key : ∀ (h'' : Heap) (t : Nat), B.StaysIn h'' → s2.heap.UpToSlots h'' → Inv (X.trx (X.pn ++ pins) (fun e s1 => ∃ (a : Addr) (cls : Value) (H' : Hp), e = .ref a ∧ Land X pins H' a cls s1 ∧ Ec cls none H')) ps σ' H' { s2 with heap := h'', toks := t } := fun h'' t hB k => by
      obtain ⟨un, ok⟩ := hcl h'' hB k
      exact I1.call' (ch := []) (s' := { s2 with heap := h'', toks := t }) os un ok bare fun b hb => nomatch hb
    have J := (key s2.heap s2.toks hfl.1 (Heap.UpToSlots.refl _)).untr
    obtain ⟨oe, vs, ho, hcc, hd⟩ := fly_at hfl
    refine ⟨a, cls, H', rfl, ⟨a0, B, hfl, hn, ?_, fun p hp z => ?_, fun h'' t hB k => (key h'' t hB k).untr.blank⟩, hE⟩
    · cases q : X.s₀.heap.get? a with
      | none => rfl
      | some o =>
        obtain ⟨o', e⟩ := I1.base.there a o q (by show a ∉ X.ex; rw [hex]; simp)
        rw [hnew] at e; cases e
    · have e := (I1.pin p (List.mem_append_left _ hp)).1
      rw [z, hnew] at e; cases e
  · cases f with
    | next => exact wpAny_execs_nil q.untr
    | brk => exact q.untr
    | cont => exact q.untr
    | ret u => exact q.untr
  · obtain ⟨a, cls, H', rfl, ⟨a0, B, f, hn, h0', hp, cl⟩, hE⟩ := q
    have hfr : X.A.frames = some (X.env :: X.outer) := by rw [I.ok.frames, stk]
    have f' := f
    rw [stk] at f'
    refine wpAny_looks_onW hfr fr f' fun h2 f2 u2 => ?_
    refine wpAny_landsW f2 fun h3 f3 u3 => ?_
    rw [← stk] at f3
    exact hh pins _ H' D a cls (Land.on hn h0' hp cl f3 (u2.trans u3)) (hc cls none H' hE a hn)
theorem r_try {tb : XK → TS} {th : TH} {D : Ends} {σ : St} {H : Hp} (Ec : XK) (h : tb Ec D σ H) (hc : ∀ cls d H', Ec cls d H' → ∀ a, H' a = none → th cls a H' D) : tTry tb th D σ H := ⟨Ec, h, hc⟩
end
theorem passF {P : Program} {w : World} {X : Cx} : Passes (CXf P w) X E0 := fun _ _ _ _ _ _ _ h => by
  obtain ⟨_, _, _, _, _, _, _, _, _, _, _, _, z⟩ := h
  exact (show False from z).elim
section
variable {X : Cx} {K : PySem.W.Frag} {σ : St} {H : Hp} {D : Ends} {Q : VK}
theorem r_for {wi : TI} {g : TG} {tb : TS} (h : wi σ H fun J H1 => ∃ W : Nat → Nat → St → Hp → Prop, (∃ m, W 0 m σ H1) ∧ ∀ i m σ H, W i m σ H →
  (J.stop i H ∧ D.nx σ H) ∨ (J.go i H ∧ ∃ N : St → Hp → Prop, (∀ σ' H', N σ' H' → ∃ m', m' < m ∧ W (i + 1) m' σ' H') ∧ ∀ x H', J.yld i H x H' → g x σ H' fun σ2 H2 => tb { D with nx := N, ct := N, bk := D.nx } σ2 H2)) : tFor wi g tb D σ H := h
theorem r_ilist {tl : TE} {R : It → Hp → Prop} (h : tl σ H fun x H1 => ∃ a, x = .ref a ∧ (∃ xs, SqL K H1 a xs) ∧ R (Itl K a) H1) : iList K tl σ H R := h
/-- x is True, x is False -/
def rIsB : R2 := fun x y H Q => ∃ a b : Bool, x = .bl a ∧ y = .bl b ∧ Q (.bl (decide (a = b))) H
theorem op_isB : OpR X (compareOp .Is) rIsB := by
  intro pins s σ H x y v u Q I rx ry h
  obtain ⟨a, b, rfl, rfl, q⟩ := h
  cases (show v = Value.bool a from rx)
  cases (show u = Value.bool b from ry)
  have e : (Value.bool a == Value.bool b) = decide (a = b) := by cases a <;> cases b <;> rfl
  exact wpAny_pure (a := Value.bool (Value.bool a == Value.bool b)) ⟨.bl _, H, I, by rw [e]; rfl, q⟩
theorem r_isB {a b : Bool} (k : Q (.bl (decide (a = b))) H) : rIsB (.bl a) (.bl b) H Q := ⟨a, b, rfl, rfl, k⟩
end

/-! ### isinstance(e, C) of an exception -/
structure ExcK (K : PySem.W.Frag) (C : Addr) : Prop where
  cls : PySem.W.isClsIn K C = true
  ga : PySem.W.findIn K (.ref C) "__getattribute__" = some (some (.builtin "BaseException.__getattribute__"))
  gh : PySem.W.findIn K (.ref C) "__getattr__" = some none
  fc : PySem.W.findIn K (.ref C) "__class__" = some (some (.builtin "object.__class__"))
  ob : PySem.W.mroIn K C (.type "object") = some true
  be : PySem.W.mroIn K C (.type "BaseException") = some true
section
variable {prog : Program} {w : World} {A : Around} {E : Value → Shared → Prop} {s : Shared} {K : PySem.W.Frag} {x C : Addr}
theorem ExcK.obj (k : ExcK K C) : ∃ (c : Value) (d : Option Addr) (cd : ClassData) (sl : Array (Option Value)), K.lookup C = some ⟨c, d, .cls cd, sl⟩ := by
  have h := k.cls
  unfold PySem.W.isClsIn PySem.W.clsIn at h
  split at h
  · rename_i c d cd sl ho
    exact ⟨c, d, cd, sl, ho⟩
  · cases h
theorem gs_class {R : Result → Shared → Prop} {hh : Heap} {g : Array GenState} {d : Drawn} {t : Nat} {os : OsState} {o : Obj} {tp : Value} (k : ExcK K C) (X : K.In hh) (ho : hh.get? x = some o) (hc : o.cls = .ref C) (h : R (.ok (.ret (.ref C))) ⟨hh, g, d, t, os⟩) :
    codeAny (model prog w) A (.call (.builtin "getset_descriptor.__get__") ⟨[.builtin "object.__class__", .ref x, tp], []⟩) R ⟨hh, g, d, t, os⟩ := by
  have L5 := PySem.W.looks_mroIn (M := model prog w) X k.ob
  have hT5 : (⟨hh, g, d, t, os⟩ : Shared).TypeIs (.builtin "object.__class__") "getset_descriptor" := PySem.F.typeOf_object_class
  refine codeAny_call_builtin PySem.F.slot_gs_get.plain PySem.F.entry_gs_get (PySem.F.slot_gs_get.check _ _ _ _ _ _ _ _ hT5 (PySem.F.args_gs_get _ _ _) ?_)
  repeat (any_goals (first | assumption | (with_reducible refine wpAny_loadPart_at ho ?_; rw [hc]) | wp_step))
  have eo : (".".intercalate ("object.__class__".cutAt '.').dropLast) = "object" := by
    have e0 : "object.__class__".cutAt '.' = ["object", "__class__"] := by first | rfl | decide +kernel
    rw [e0]; decide +kernel
  rw [eo]
  refine L5.at ?_
  repeat (any_goals (first | assumption | wp_step))
  refine ⟨Code.quiet_builtin _ (by decide +kernel), codeAny_builtin PySem.F.entry_object_class ?_⟩
  repeat (any_goals (first | assumption | (with_reducible refine wpAny_loadPart_at ho ?_; rw [hc]) | wp_step))
theorem exc_class {Q : Option Value → Shared → Prop} (k : ExcK K C) (X : K.In s.heap) (I : exAt x (.ref C) s.heap) (h : Q (some (.ref C)) { s with toks := s.toks + 1 }) : wpAny (model prog w) A (getAttr? (.ref x) "__class__") Q E s := by
  obtain ⟨hh, g, d, t, os⟩ := s
  obtain ⟨o, ho, hc⟩ := I
  have X : K.In hh := X
  have L0 : PySem.W.Looks (model prog w) hh (typeOf (.ref x)) (.ref C) := hc ▸ (PySem.W.Looks.ld ho).andThen .now
  have L1 := PySem.W.looks_findIn (M := model prog w) X k.ga
  have L2 := PySem.W.looks_findIn (M := model prog w) X k.gh
  have L3 := PySem.W.looks_findIn (M := model prog w) X k.fc
  have L4 := PySem.W.looks_mroIn (M := model prog w) X k.be
  have L5 := PySem.W.looks_mroIn (M := model prog w) X k.ob
  have LI : PySem.W.Looks (model prog w) hh (isInstance (.ref x) (.type "BaseException")) true := L0.andThen L4
  unfold getAttr? getAttrBy? getAttrBy
  refine wpAny_bind (wpAny_mkText (wpAny_bind (wpAny_attempt (wpAny_holding (wpAny_bind (L0.at (wpAny_bind (L1.at ?_))))))))
  show wpAny _ _ (getAttrByItsOwn _ _ _ _ _ _) _ _ _
  unfold getAttrByItsOwn hookBefore
  show wpAny _ _ (typeLookup (.ref C) "__getattr__" >>= _) _ _ _
  refine wpAny_bind (L2.at ?_)
  refine wpAny_bind (wpAny_attempt (wpAny_holding ?_))
  show wpAny _ _ (boundAndCalled _ _ _) _ _ _
  unfold boundAndCalled
  rw [PySem.F.attr_ValueError.ga.bind (.ref x)]
  refine wpAny_bind (wpAny_pure ?_)
  show wpAny _ _ (call (.builtin "BaseException.__getattribute__") [.ref x, .str "__class__" t]) _ _ _
  refine wpAny_call (codeAny_call_builtin PySem.F.attr_ValueError.ga.plain PySem.F.entry_bexc_ga ?_)
  have hk : builtinKind "BaseException.__getattribute__" = some .slot := by decide +kernel
  have hsplit : splitId "BaseException.__getattribute__" = some ("BaseException", "__getattribute__") := by decide +kernel
  have ha := PySem.F.args_bexc_ga (.ref x) (.str "__class__" t)
  simp only [checkBuiltinCall, hk, hsplit]
  refine wpAny_bind (LI.at ?_)
  repeat (any_goals (first | assumption | wp_step))
  rw [hc]
  refine L3.at ?_
  have f5 := PySem.F.typeOf_object_class
  have f6 := PySem.F.slot_gs_get.lookup
  have f7 := PySem.F.slot_gs_set.lookup
  repeat (any_goals (first | assumption | wp_step))
  exact gs_class k X ho hc (by
    repeat (any_goals (first | assumption | wp_step))
    done)
theorem kitx_exc (k : ExcK K C) : PySem.W.KitX K (.ref x) (.ref C) (exAt x (.ref C)) where
  ty := fun M h _ I => by
    obtain ⟨o, h1, h2⟩ := I
    exact h2 ▸ (PySem.W.Looks.ld h1).andThen .now
  it := fun M h X _ => by
    obtain ⟨c, d, cd, sl, ho⟩ := k.obj
    intro A' Q' E' s' kp q
    unfold isType loadHead
    exact wpAny_bind (wpAny_loadPart (kp _ _ (X _ _ ho)) (wpAny_pure q))
  ne := fun h tp dd its n sl X htp => by
    obtain ⟨c, d, cd, sl', ho⟩ := k.obj
    refine Bool.eq_false_iff.mpr fun q => ?_
    have e : C = tp := Value.ref.inj (beq_iff_eq.mp q)
    subst e
    have z := (X _ _ ho).symm.trans htp
    cases z
  ca := fun X I q => exc_class k X I q
end
section
variable {X : Cx} {K : PySem.W.Frag} {H : Hp} {Q : VK}
def vcl : V → Value
  | .ref a => .ref a
  | .ty n => .type n
  | _ => .none
def rIsiE (K : PySem.W.Frag) : List V → Hp → VK → Prop := fun xs H Q => ∃ a C c b, xs = [.ref a, c] ∧ ExcK K C ∧ H a = some (xo a (.ref C)) ∧ vcl c ≠ .none ∧ PySem.W.kitOne K (.ref C) (vcl c) = some b ∧ Q (.bl b) H
theorem call_isiE : CallR X (.builtin "isinstance") (rIsiE X.K) := by
  intro pins s σ H xs us Q I r h
  obtain ⟨a, C, c, b, rfl, ek, ha, hv, e, q⟩ := h
  obtain ⟨u, w', rfl, rx, ry⟩ := vals2 r
  cases (show u = Value.ref a from rx)
  have hw : w' = vcl c := by
    cases c with
    | ref p => exact ry
    | ty n => exact ry
    | _ => exact absurd rfl hv
  subst hw
  have ex : exAt a (.ref C) s.heap := (I.hok a _ ha).1
  exact PySem.W.kia_one (kitx_exc ek) I.kIn ex e (fun z => nomatch z) fun tk => ⟨.bl _, H, I.tok _, rfl, q⟩
theorem call_isiEK {K : PySem.W.Frag} (hK : X.K = K) : CallR X (.builtin "isinstance") (rIsiE K) := by subst hK; exact call_isiE
theorem r_isiE {a C : Addr} {c : V} {b : Bool} (ek : ExcK K C) (ha : H a = some (xo a (.ref C))) (hv : vcl c ≠ .none) (e : PySem.W.kitOne K (.ref C) (vcl c) = some b) (q : Q (.bl b) H) : rIsiE K [.ref a, c] H Q := ⟨a, C, c, b, rfl, ek, ha, hv, e, q⟩
theorem bt_ValueError : bootBuiltins "ValueError" = some (.type "ValueError") := by decide +kernel
end
end L2

set_option linter.all false
set_option maxRecDepth 100000
set_option autoImplicit false
namespace L2
open PySem PySem.Spec PyProof.Rows
/-! ### names that a comprehension takes from its def -/
def jck (N cn : List Str) : List Str → List (Option Nat) → Bool
  | [], [] => true
  | _ :: xs, none :: js => jck N cn xs js
  | x :: xs, some j :: js => (decide (N[j]? = some x) && decide (x ∈ cn)) && jck N cn xs js
  | _, _ => false
theorem jck_len {N cn : List Str} : ∀ {xs : List Str} {js : List (Option Nat)}, jck N cn xs js = true → js.length = xs.length
  | [], [], _ => rfl
  | _ :: xs, none :: js, h => by
    have := jck_len (xs := xs) (js := js) h
    simp [this]
  | x :: xs, some j :: js, h => by
    have h' := (Bool.and_eq_true_iff.mp h).2
    have := jck_len (xs := xs) (js := js) h'
    simp [this]
  | [], _ :: _, h => by cases h
  | _ :: _, [], h => by cases h
theorem jck_at {N cn : List Str} : ∀ {xs : List Str} {js : List (Option Nat)}, jck N cn xs js = true → ∀ (k : Nat) (x : Str) (j : Nat), xs[k]? = some x → js[k]? = some (some j) → N[j]? = some x ∧ x ∈ cn
  | [], [], _, k, x, j, e, _ => by cases e
  | _ :: xs, none :: js, h, 0, x, j, _, e => by cases e
  | _ :: xs, none :: js, h, k + 1, x, j, e1, e2 => jck_at (xs := xs) (js := js) h k x j (by simpa using e1) (by simpa using e2)
  | x :: xs, some j :: js, h, 0, y, i, e1, e2 => by
    cases e1; cases e2
    have h' := (Bool.and_eq_true_iff.mp h).1
    obtain ⟨a, b⟩ := Bool.and_eq_true_iff.mp h'
    exact ⟨of_decide_eq_true a, of_decide_eq_true b⟩
  | x :: xs, some j :: js, h, k + 1, y, i, e1, e2 => jck_at (xs := xs) (js := js) (Bool.and_eq_true_iff.mp h).2 k y i (by simpa using e1) (by simpa using e2)
  | [], _ :: _, h, _, _, _, _, _ => by cases h
  | _ :: _, [], h, _, _, _, _, _ => by cases h
theorem lookup_relabel {env : Env} : ∀ {names : List (Str × NameKind)} {x : Str} {k : NameKind},
    (names.map fun (n, k) => if (k == NameKind.free && env.scope.kind == .function && env.kindOf n == some .cell) then (n, NameKind.cell) else (n, k)).lookup x = some k → ∃ k0, names.lookup x = some k0 ∧ (k0 = k ∨ (k0 = .free ∧ k = .cell))
  | [], _, _, h => by cases h
  | (n, k0) :: r, x, k, h => by
    rw [List.map_cons] at h
    by_cases hc : (k0 == NameKind.free && env.scope.kind == .function && env.kindOf n == some .cell) = true
    · simp only [hc, if_true] at h
      rw [List.lookup_cons] at h ⊢
      by_cases hx : (x == n) = true
      · simp only [hx] at h ⊢
        cases h
        simp only [Bool.and_eq_true, beq_iff_eq] at hc
        exact ⟨_, rfl, .inr ⟨hc.1.1, rfl⟩⟩
      · rw [Bool.not_eq_true] at hx
        simp only [hx] at h ⊢
        exact lookup_relabel h
    · rw [Bool.not_eq_true] at hc
      simp only [hc, Bool.false_eq_true, if_false] at h
      rw [List.lookup_cons] at h ⊢
      by_cases hx : (x == n) = true
      · simp only [hx] at h ⊢
        cases h
        exact ⟨_, rfl, .inl rfl⟩
      · rw [Bool.not_eq_true] at hx
        simp only [hx] at h ⊢
        exact lookup_relabel h
theorem lookup_relabel_free {env : Env} : ∀ {names : List (Str × NameKind)} {x : Str}, names.lookup x = some .free →
    ∃ k, (names.map fun (n, k) => if (k == NameKind.free && env.scope.kind == .function && env.kindOf n == some .cell) then (n, NameKind.cell) else (n, k)).lookup x = some k ∧ (k = .cell ∨ k = .free)
  | [], _, h => by cases h
  | (n, k0) :: r, x, h => by
    rw [List.map_cons]
    rw [List.lookup_cons] at h
    by_cases hx : (x == n) = true
    · simp only [hx] at h
      cases h
      by_cases hc : (NameKind.free == NameKind.free && env.scope.kind == .function && env.kindOf n == some .cell) = true
      · simp only [hc, if_true]
        rw [List.lookup_cons]
        simp only [hx]
        exact ⟨_, rfl, .inl rfl⟩
      · rw [Bool.not_eq_true] at hc
        simp only [hc, Bool.false_eq_true, if_false]
        rw [List.lookup_cons]
        simp only [hx]
        exact ⟨_, rfl, .inr rfl⟩
    · rw [Bool.not_eq_true] at hx
      simp only [hx] at h
      obtain ⟨k, e1, e2⟩ := lookup_relabel_free (env := env) h
      refine ⟨k, ?_, e2⟩
      by_cases hc : (k0 == NameKind.free && env.scope.kind == .function && env.kindOf n == some .cell) = true
      · simp only [hc, if_true]
        rw [List.lookup_cons]
        simp only [hx]; exact e1
      · rw [Bool.not_eq_true] at hc
        simp only [hc, Bool.false_eq_true, if_false]
        rw [List.lookup_cons]
        simp only [hx]; exact e1
theorem comp_cap {X : Cx} {N' : List Str} {js : List (Option Nat)} {scope : Scope} {cl : List (Str × Addr)} (cn : List Str) (h1 : scope.kind = .function) (h2 : ∀ y ∈ scope.names, y.2 = .local → scope.names.lookup y.1 = some .local) (h3 : ∀ y ∈ scope.names, y.2 ≠ .cell)
    (h4 : ∀ y ∈ scope.names, y.2 = .free → y.1 ∈ cn) (h5 : ∀ x ∈ cn, scope.names.lookup x = some .free) (h6 : ∀ x ∈ cn, X.env.kindOf x = some .cell) (clos : closureFor scope X.env = pure cl) (hcl : cl.map (·.1) = cn) (sub : ∀ p ∈ cl, X.env.cells.lookup p.1 = some p.2) (hj : jck X.N cn N' js = true) : CompOk X N' js scope cl where
  kind := h1
  names := h2
  nocell := h3
  clos := clos
  sub := fun x c e => sub (x, c) (PySem.mem_of_lookup e)
  has := fun x hx => by
    have hf : scope.names.lookup x = some .free := by
      rcases hx with hx | hx
      · obtain ⟨k0, e, z⟩ := lookup_relabel hx
        rcases z with rfl | ⟨rfl, _⟩
        · exact absurd rfl (h3 _ (PySem.mem_of_lookup e))
        · exact e
      · obtain ⟨k0, e, z⟩ := lookup_relabel hx
        rcases z with rfl | ⟨rfl, _⟩
        · exact e
        · exact e
    have hm := h4 _ (PySem.mem_of_lookup hf) rfl
    rw [← hcl] at hm
    obtain ⟨p, hp, rfl⟩ := List.mem_map.mp hm
    have : (cl.lookup p.1).isSome = true := by
      clear clos hcl sub hm
      induction cl with
      | nil => cases hp
      | cons q t ih =>
        rw [List.lookup_cons]
        by_cases z : (p.1 == q.1) = true
        · simp [z]
        · rw [Bool.not_eq_true] at z
          simp only [z]
          rcases List.mem_cons.mp hp with rfl | hp
          · simp at z
          · exact ih hp
    exact Option.isSome_iff_exists.mp this
  jlen := jck_len hj
  jof := fun k x j e1 e2 => by
    obtain ⟨a, b⟩ := jck_at hj k x j e1 e2
    obtain ⟨k', e, z⟩ := lookup_relabel_free (env := X.env) (h5 x b)
    refine ⟨a, .inl (h6 x b), ?_⟩
    rcases z with rfl | rfl
    · exact .inl e
    · exact .inr e
/-! ### a comprehension's turns, without a test -/
theorem nxt {n i : Nat} {P : Prop} (c : i < n) (h : P) : ∃ m', m' < n - i ∧ m' = n - (i + 1) ∧ i + 1 ≤ n ∧ P := ⟨n - (i + 1), by omega, rfl, c, h⟩
def oneW (n i : Nat) (g : TG) (te : TE) (D : Addr) (Pv : Nat → St → List V → Hp → Prop) (x : V) (σ : St) (ys : List V) (H : Hp) : Prop :=
  g x σ H fun σ2 H3 => tTrue σ2 H3 fun ok H4 => if ok = true then te σ2 H4 fun v H5 => H5 D = some (.lst ys) ∧ ∃ m', m' < n - i ∧ m' = n - (i + 1) ∧ i + 1 ≤ n ∧ Pv (i + 1) σ2 (ys ++ [v]) (upd H5 D (.lst (ys ++ [v])))
    else ∃ m', m' < n - i ∧ m' = n - (i + 1) ∧ i + 1 ≤ n ∧ Pv (i + 1) σ2 ys H4
theorem r_one {n i j : Nat} {te : TE} {D : Addr} {Pv : Nat → St → List V → Hp → Prop} {x : V} {σ : St} {ys : List V} {H : Hp} (h : te (σ.set j (some x)) H fun v H5 => H5 D = some (.lst ys) ∧ ∃ m', m' < n - i ∧ m' = n - (i + 1) ∧ i + 1 ≤ n ∧ Pv (i + 1) (σ.set j (some x)) (ys ++ [v]) (upd H5 D (.lst (ys ++ [v])))) : oneW n i (gName j) te D Pv x σ ys H :=
  r_gname (r_true (iteT h))
theorem comp_range {lo : Int} {n : Nat} {g : TG} {te : TE} {D : Addr} {σ : St} {H1 : Hp} {F : Hp → Prop} (Pv : Nat → St → List V → Hp → Prop) (h0 : Pv 0 σ [] (upd H1 D (.lst []))) (hD : ∀ i σ ys H, i ≤ n → Pv i σ ys H → H D = some (.lst ys) ∧ ys.length < sizeLine)
    (hs : ∀ i σ ys H, i < n → Pv i σ ys H → oneW n i g te D Pv (.int (lo + i)) σ ys H) (hd : ∀ σ ys H, Pv n σ ys H → F H) : compW (Itr lo n) g tTrue te D σ H1 F := by
  refine ⟨fun i m σ ys H => m = n - i ∧ i ≤ n ∧ Pv i σ ys H, ⟨n, rfl, Nat.zero_le _, h0⟩, ?_⟩
  rintro i m σ ys H ⟨rfl, hi, p⟩
  refine ⟨(hD i σ ys H hi p).1, (hD i σ ys H hi p).2, ?_⟩
  by_cases c : i < n
  · refine .inr ⟨c, ?_⟩
    rintro x H2 ⟨rfl, rfl⟩
    exact hs i σ ys _ c p
  · have e : i = n := by omega
    subst e
    exact .inl ⟨Nat.le_refl _, hd σ ys H p⟩
theorem comp_list {K : PySem.W.Frag} {a : Addr} {xs : List V} {g : TG} {te : TE} {D : Addr} {σ : St} {H1 : Hp} {F : Hp → Prop} (Pv : Nat → St → List V → Hp → Prop) (h0 : Pv 0 σ [] (upd H1 D (.lst []))) (hD : ∀ i σ ys H, i ≤ xs.length → Pv i σ ys H → (H D = some (.lst ys) ∧ ys.length < sizeLine) ∧ SqL K H a xs)
    (hs : ∀ i x σ ys H, xs[i]? = some x → Pv i σ ys H → oneW xs.length i g te D Pv x σ ys H) (hd : ∀ σ ys H, Pv xs.length σ ys H → F H) : compW (Itl K a) g tTrue te D σ H1 F := by
  refine ⟨fun i m σ ys H => m = xs.length - i ∧ i ≤ xs.length ∧ Pv i σ ys H, ⟨xs.length, rfl, Nat.zero_le _, h0⟩, ?_⟩
  rintro i m σ ys H ⟨rfl, hi, p⟩
  obtain ⟨q1, q2⟩ := hD i σ ys H hi p
  refine ⟨q1.1, q1.2, ?_⟩
  by_cases c : i < xs.length
  · refine .inr ⟨⟨xs, xs[i], q2, by simp [c]⟩, ?_⟩
    rintro x H2 ⟨rfl, y⟩
    exact hs i x σ ys _ (y xs q2) p
  · have e : i = xs.length := by omega
    subst e
    exact .inl ⟨⟨xs, q2, Nat.le_refl _⟩, hd σ ys H p⟩
end L2

set_option Elab.async false
set_option linter.all false
set_option maxRecDepth 100000
set_option autoImplicit false
namespace L2
open PySem PySem.Spec PyProof.Rows
section
variable {X : Cx} {K : PySem.W.Frag} {σ : St} {H : Hp} {Q : VK} {te : TE}
/-! ### x in xs, any data -/
def rInD (K : PySem.W.Frag) : R2 := fun x y H Q => ∃ (d : PyData) (xs : List PyData), RD K H d x ∧ RD K H (.list xs) y ∧ d.canLay0 = true ∧ PyData.canLayAll0 xs = true ∧ d.depth ≤ 8 ∧ Q (.bl (xs.any fun e => PyData.eqv e d)) H
theorem op_inD (hu : X.A.units + 64 < cLine) : OpR X (compareOp .In) (rInD X.K) := by
  intro pins s σ H x y v u Q I rx ry h
  obtain ⟨d, xs, h1, h2, c1, c2, c3, q⟩ := h
  obtain ⟨as, r1⟩ := RD.reads I d x v h1 rx
  obtain ⟨bs, r2⟩ := RD.reads I _ y u h2 ry
  refine SeqAt.in_list_reads r2 r1 c2 c1 ?_ ⟨.bl _, H, I, rfl, q⟩
  have : min (PyData.depthAll xs) d.depth ≤ d.depth := Nat.min_le_right _ _
  omega
theorem r_un {r : V → Hp → VK → Prop} (h : te σ H fun x H1 => r x H1 Q) : tUn r te σ H Q := h
theorem r_U {f : Int → V} {a : Int} (k : Q (f a) H) : rU f (.int a) H Q := ⟨a, rfl, k⟩
theorem r_ixT {p : Addr} {xs : List V} {v : V} {n : Int} (s : SqT K H p xs) (e : atI xs n = some v) (k : Q v H) : rIxT K (.ref p) (.int n) H Q := ⟨p, xs, n, v, rfl, rfl, s, e, k⟩
theorem at_last {ns : List Int} {c : Int} : atI ((ns ++ [c]).map V.int) (-1) = some (.int c) := by
  unfold atI ixN
  rw [if_neg (by decide)]
  have hl : ((ns ++ [c]).map V.int).length = ns.length + 1 := by simp
  rw [hl, if_pos (by omega)]
  show ((ns ++ [c]).map V.int)[(-1 + ((ns.length + 1 : Nat) : Int)).toNat]? = _
  rw [show (-1 + ((ns.length + 1 : Nat) : Int)).toNat = ns.length by omega, List.map_append, List.getElem?_append_right (by simp)]
  simp
/-- x is not True, x is not False -/
def rIsnB : R2 := fun x y H Q => ∃ a b : Bool, x = .bl a ∧ y = .bl b ∧ Q (.bl (!decide (a = b))) H
theorem op_isnB : OpR X (compareOp .IsNot) rIsnB := by
  intro pins s σ H x y v u Q I rx ry h
  obtain ⟨a, b, rfl, rfl, q⟩ := h
  cases (show v = Value.bool a from rx)
  cases (show u = Value.bool b from ry)
  have e : (!(Value.bool a == Value.bool b)) = !decide (a = b) := by cases a <;> cases b <;> rfl
  exact wpAny_pure (a := Value.bool (!(Value.bool a == Value.bool b))) ⟨.bl _, H, I, by rw [e]; rfl, q⟩
theorem r_isnB {a b : Bool} (k : Q (.bl (!decide (a = b))) H) : rIsnB (.bl a) (.bl b) H Q := ⟨a, b, rfl, rfl, k⟩
/-! ### tuples as data -/
theorem eqv_int {i j : Int} : PyData.eqv (.int i) (.int j) = (i == j) := by rw [PyData.eqv]
theorem eqv_str {x y : Str} : PyData.eqv (.str x) (.str y) = (x == y) := by rw [PyData.eqv]
theorem eqv_tup2 {a b c d : PyData} : PyData.eqv (.tuple [a, b]) (.tuple [c, d]) = (PyData.eqv a c && PyData.eqv b d) := by
  rw [PyData.eqv, PyData.eqvAll, PyData.eqvAll, PyData.eqvAll, Bool.and_true]
theorem r_truN {QT : Bool → Prop} (h : QT false) : ∃ k, TruV K .non H k ∧ QT k := ⟨_, rfl, h⟩
end
/-! ### a def whose last parameter has the default None -/
structure FunD (K : PySem.W.Frag) (x qual : Str) (st : Stmt) (f : Addr) (fd : FuncData) : Prop where
  ex : ∃ (oc : Value) (od : Option Addr) (kV doc pm : Value) (an : Option Addr) (cdv ct : Value) (osl : Array (Option Value)) (dT : Addr) (toc : Value) (tod : Option Addr) (tn : Nat) (tsl : Array (Option Value)),
    fd = PySem.W.fnOf x qual (defArgs st) (defBody st) (defScope st) (.ref dT) kV doc pm an cdv ct ∧ K.lookup f = some ⟨oc, od, .func fd, osl⟩ ∧ PySem.W.codeIn K cdv qual = true ∧ K.lookup dT = some ⟨toc, tod, .seq #[.none] tn, tsl⟩
  kp : PySem.W.keepIn K (.ref f) = true
section
variable {P : Program} {w : World} {K : PySem.W.Frag} {mg : Str → Option Value} {base : Heap} {x qual : Str} {st : Stmt} {f : Addr} {fd : FuncData} {ps : List Str}
theorem FunD.ok {N : List Str} {k : Nat} {sp : Sp} (F : FunD K x qual st f fd) (S : FnScope N ps (defScope st)) (len : ∀ vs H Q E, sp vs H Q E → vs.length = ps.length)
    (hbody : ∀ (cdv : Value) (A : Around) (outer : List Env) (s : Shared) (H : Hp) (vs : List V) (Q : VK) (E : XK), Room k (A.deeper (envOfC qual (defScope st) s.heap.objs.size f cdv)) → sp vs H Q E →
      ∃ t, PSs (cxOf CX0 P w K mg base N qual (defScope st) f cdv A outer s H E).nox (defBody st) t ∧ t { nx := fun _ H' => Q .non H', rt := Q } (start N vs) H) : FnOk P w K mg base CX0 (k + 1) f fd ps sp := by
  obtain ⟨oc, od, kV, doc, pm, an, cdv, ct, osl, dT, toc, tod, tn, tsl, rfl, lk, hcd, lt⟩ := F.ex
  refine fn_of lk hcd S len fun A outer s H vs Q E hr hsp => ?_
  obtain ⟨t, h, q⟩ := hbody cdv A outer s H vs Q E hr hsp
  exact ⟨t, h.nox, q⟩
theorem FunD.binds0 (F : FunD K x qual st f fd)
    (h : ∀ (kV doc pm : Value) (an : Option Addr) (cdv ct : Value) (dT : Addr) (us : List Value), us.length = ps.length → ∃ k, bindArgs (PySem.W.fnOf x qual (defArgs st) (defBody st) (defScope st) (.ref dT) kV doc pm an cdv ct) ⟨us, []⟩ = seqItems? (.ref dT) >>= k ∧ k (some #[.none]) = pure (ps.zip us)) : Binds K fd ps [] := by
  obtain ⟨oc, od, kV, doc, pm, an, cdv, ct, osl, dT, toc, tod, tn, tsl, rfl, lk, hcd, lt⟩ := F.ex
  intro s us X hl
  rw [List.append_nil] at hl ⊢
  obtain ⟨k, h1, h2⟩ := h kV doc pm an cdv ct dT us hl
  exact PySem.W.binds_K X rfl lt rfl h1 h2
theorem FunD.binds1 (F : FunD K x qual st f fd)
    (h : ∀ (kV doc pm : Value) (an : Option Addr) (cdv ct : Value) (dT : Addr) (us : List Value), us.length + 1 = ps.length → ∃ k, bindArgs (PySem.W.fnOf x qual (defArgs st) (defBody st) (defScope st) (.ref dT) kV doc pm an cdv ct) ⟨us, []⟩ = seqItems? (.ref dT) >>= k ∧ k (some #[.none]) = pure (ps.zip (us ++ [.none]))) : Binds K fd ps [.none] := by
  obtain ⟨oc, od, kV, doc, pm, an, cdv, ct, osl, dT, toc, tod, tn, tsl, rfl, lk, hcd, lt⟩ := F.ex
  intro s us X hl
  obtain ⟨k, h1, h2⟩ := h kV doc pm an cdv ct dT us (by rw [List.length_append] at hl; exact hl)
  exact PySem.W.binds_K X rfl lt rfl h1 h2
theorem fund_mk {oc : Value} {od an : Option Addr} {osl : Array (Option Value)} {kV doc pm cdv ct : Value} {dT : Addr} {toc : Value} {tod : Option Addr} {tn : Nat} {tsl : Array (Option Value)} (l : K.lookup f = some ⟨oc, od, .func (PySem.W.fnOf x qual (defArgs st) (defBody st) (defScope st) (.ref dT) kV doc pm an cdv ct), osl⟩)
    (c : PySem.W.codeIn K cdv qual = true) (t : K.lookup dT = some ⟨toc, tod, .seq #[.none] tn, tsl⟩) (k : PySem.W.keepIn K (.ref f) = true) : FunD K x qual st f (PySem.W.fnOf x qual (defArgs st) (defBody st) (defScope st) (.ref dT) kV doc pm an cdv ct) := ⟨⟨oc, od, kV, doc, pm, an, cdv, ct, osl, dT, toc, tod, tn, tsl, rfl, l, c, t⟩, k⟩
end
end L2

set_option Elab.async false
set_option linter.all false
set_option maxRecDepth 100000
set_option autoImplicit false
namespace L2
open PySem PySem.Spec PyProof.Rows

/-! ### an exception that goes through a comprehension's block -/
section
variable {M : Model} {A : Around} {E : Value → Shared → Prop} {s : Shared} {base : Heap} {l : List Env} {e : Addr} {cls a0 fl : Value}
/-- the last entry's mark is written anew -/
theorem mark_set {fr : Option Addr} {Q : Unit → Shared → Prop} (kb : base.StaysIn s.heap) (ff : s.heap.FunFrames base l) (ht : s.heap.TracedAtW base e cls a0 fl)
    (q : ∀ h', base.StaysIn h' → h'.FunFrames base l → h'.TracedAtW base e cls a0 (fr.elim Value.none fun f => rawInt f) → s.heap.UpToSlots h' → Q () { s with heap := h' }) : wpAny M A (setFlight (.ref e) fr) Q E s := by
  obtain ⟨oe, vs, T, oT, ts, he, hc, hd, h1, nT, Te, hT, dT, h3⟩ := ht
  have z3 : 3 < ts.size := (Array.getElem?_eq_some_iff.mp h3).1
  unfold setFlight
  refine wpAny_bind (wpAny_field he hd h1 ?_)
  rw [if_pos (show (Value.ref T != Value.none) = true from by simp)]
  refine wpAny_setField hT dT z3 ?_
  generalize hF : Obj.mapFields (fun x => x.setIfInBounds 3 (fr.elim Value.none fun f => rawInt f)) = F
  have oth : ∀ b, b ≠ T → (s.heap.update T F).get? b = s.heap.get? b := fun b n => Heap.get?_update_other _ _ n.symm
  have nr : ∀ b o, s.heap.get? b = some o → (∀ ws, o.data ≠ .fields ws) → b ≠ T := by
    rintro b o hb hn rfl
    rw [hT] at hb; cases hb; exact hn ts dT
  have hT2 : (s.heap.update T F).get? T = some (F oT) := by
    rw [← hF]; exact Heap.get?_update_self _ hT (Obj.isFreed_of_fields (Obj.data_mapFields dT _))
  have dT2 : (F oT).data = .fields (ts.setIfInBounds 3 (fr.elim Value.none fun f => rawInt f)) := by
    rw [← hF]; exact Obj.data_mapFields dT _
  refine q _ (fun b o hb => ?_) (ff.of_keeps fun b o hb hn => ⟨o, (oth b (nr b o hb hn)).trans hb, rfl⟩) ⟨oe, vs, T, _, _, (oth e Te.symm).trans he, hc, hd, h1, nT, Te, hT2, dT2, by simp [z3]⟩ fun b o hb hn => ⟨o.slots, (oth b (nr b o hb hn)).trans hb⟩
  refine (oth b ?_).trans (kb b o hb)
  rintro rfl
  rw [nT] at hb; cases hb
/-- it leaves a body, whatever its mark is -/
theorem leave_any {env : Env} {outer : List Env} {L : Addr} {Q : Unit → Shared → Prop} (hfr : A.frames = some (env :: outer)) (hf : env.frame = some L) (kb : base.StaysIn s.heap) (hen : base.get? e = none) (ff : s.heap.FunFrames base (env :: outer))
    (ht : s.heap.TracedAtW base e cls a0 fl) (q : ∀ h', Heap.FlyingW base outer e cls a0 h' → s.heap.UpToSlots h' → Q () { s with heap := h' }) : wpAny M A (leaving env (.ref e)) Q E s := by
  have land : ∀ (s1 : Shared) (fl1 : Value), base.StaysIn s1.heap → s1.heap.FunFrames base (env :: outer) → s1.heap.TracedAtW base e cls a0 fl1 → s1 = { s with heap := s1.heap } → s.heap.UpToSlots s1.heap → wpAny M A (setFlight (.ref e) none) Q E s1 := fun s1 fl1 k1 k2 k3 es up => by
    refine mark_set k1 k2 k3 fun h' j1 j2 j3 j4 => ?_
    have := q h' ⟨j1, hen, j2.2.2, j3⟩ (up.trans j4)
    rw [es]; exact this
  unfold leaving
  refine wpAny_bind ?_
  cases hb : (fl == rawInt L) with
  | true =>
    have ht' := ht
    obtain ⟨oe, vs, T, oT, ts, he, hc, hd, h1, nT, Te, hT, dT, h3⟩ := ht
    unfold noteFrame
    simp only [hf]
    refine wpAny_bind (wpAny_field he hd h1 ?_)
    rw [if_pos (show (Value.ref T != Value.none) = true from by simp)]
    refine wpAny_bind (wpAny_field hT dT h3 ?_)
    rw [if_pos hb]
    exact wpAny_pure (land s fl kb ff ht' rfl (Heap.UpToSlots.refl _))
  | false =>
    obtain ⟨oe, vs, T, oT, ts, he, ⟨hc, h0⟩, hd, h1, nT, Te, hT, dT, h3⟩ := ht
    unfold noteFrame
    simp only [hf]
    refine wpAny_bind (wpAny_field he hd h1 ?_)
    rw [if_pos (show (Value.ref T != Value.none) = true from by simp)]
    refine wpAny_bind (wpAny_field hT dT h3 ?_)
    rw [if_neg (by rw [hb]; exact Bool.false_ne_true)]
    refine wpAny_bind (wpAny_setField hT dT (Array.getElem?_eq_some_iff.mp h3).1 ?_)
    have oth : ∀ b, b ≠ T → (s.heap.update T (Obj.mapFields (·.setIfInBounds 3 Value.none))).get? b = s.heap.get? b := fun b n => Heap.get?_update_other _ _ n.symm
    have nr : ∀ b o, s.heap.get? b = some o → (∀ ws, o.data ≠ .fields ws) → b ≠ T := by
      rintro b o hb hn rfl
      rw [hT] at hb; cases hb; exact hn ts dT
    refine wpAny_entryW (base := base) (outer := outer) hfr (ff.of_keeps fun b o hb hn => ⟨o, (oth b (nr b o hb hn)).trans hb, rfl⟩) hf ((oth e Te.symm).trans he) (fun b o hb => (oth b ?_).trans (kb b o hb)) hen hd (Array.getElem?_eq_some_iff.mp h1).1 h0 fun h' hN => ?_
    · rintro rfl
      rw [nT] at hb; cases hb
    · obtain ⟨k1, k2, k3, k4⟩ := hN
      rw [hc] at k3
      exact land { s with heap := h' } _ k1 k2 k3 rfl fun b o hb hn => k4 b o ((oth b (nr b o hb hn)).trans hb) hn
end

/-- a heap with one object more, all the others as they were -/
theorem put_at (h : Heap) (C : Addr) {o : Obj} (hf : o.isFreed = false) : ∃ h2 : Heap, h2.get? C = some o ∧ ∀ b, b ≠ C → h2.get? b = h.get? b := by
  by_cases c : C < h.objs.size
  · refine ⟨h.update C fun _ => o, Heap.get?_some_iff.mpr ⟨?_, hf⟩, fun b n => Heap.get?_update_other _ _ n.symm⟩
    simp only [Heap.update, Array.getElem?_modify, if_true]
    rw [Array.getElem?_eq_getElem c]; rfl
  · have c' : h.objs.size ≤ C := Nat.le_of_not_lt c
    have key : ∀ n : Nat, h.objs.size ≤ n → (h.objs ++ Array.replicate (n - h.objs.size) ({ o with data := .freed } : Obj) ++ #[o])[n]? = some o := fun n hn => by
      rw [Array.getElem?_append_right (by simp; omega)]
      simp only [Array.size_append, Array.size_replicate]
      rw [show n - (h.objs.size + (n - h.objs.size)) = 0 by omega]; rfl
    refine ⟨{ h with objs := h.objs ++ Array.replicate (C - h.objs.size) ({ o with data := .freed } : Obj) ++ #[o] }, Heap.get?_some_iff.mpr ⟨key C c', hf⟩, fun b n => ?_⟩
    have low : ∀ n b : Nat, h.objs.size ≤ n → b ≠ n → (h.objs ++ Array.replicate (n - h.objs.size) ({ o with data := .freed } : Obj) ++ #[o])[b]? = if b < h.objs.size then h.objs[b]? else if b < n then some { o with data := .freed } else none := fun n b hn hb => by
      by_cases b1 : b < h.objs.size
      · rw [if_pos b1, Array.getElem?_append_left (by simp; omega), Array.getElem?_append_left b1]
      · rw [if_neg b1]
        by_cases b2 : b < n
        · rw [if_pos b2, Array.getElem?_append_left (by simp; omega), Array.getElem?_append_right (by omega), Array.getElem?_replicate, if_pos (by omega)]
        · rw [if_neg b2, Array.getElem?_eq_none (by simp; omega)]
    unfold Heap.get?
    rw [low C b c' n]
    by_cases b1 : (show Nat from b) < h.objs.size
    · rw [if_pos b1]
    · rw [if_neg b1, Array.getElem?_eq_none (Nat.le_of_not_lt b1)]
      by_cases b2 : (show Nat from b) < (show Nat from C)
      · rw [if_pos b2]
      · rw [if_neg b2]
/-- what is wanted of an exception that leaves the block -/
def compErr (X : Cx) (C : Addr) (x : Value) (s' : Shared) : Prop := ∃ m, s'.heap.Ns C m ∧ ∀ h', Heap.SameBut C s'.heap h' → ∀ cenv : Env, cenv.locals = C → wpAny (model X.prog X.w) X.A (PySem.passOn "comprehension.variables-let-go" x cenv : Sem Value) (fun _ _ => False) X.xe { s' with heap := h' }
abbrev compXx (X : Cx) (N' : List Str) (scope : Scope) (cl : List (Str × Addr)) (C : Addr) (s3 : Shared) (H3 : Hp) (fp : List Addr) : Cx :=
  (compX X N' scope cl C s3 H3 fp).wish (notedBy (model X.prog X.w) X.A (compEnvC scope cl C X.env) (compErr X C))
/-- where the block began -/
def CompAt (X : Cx) (C : Addr) (s3 : Shared) (H3 : Hp) (fp : List Addr) : Prop := ∃ pins σ, Inv X pins σ H3 s3 ∧ (∀ b ∈ fp, FpOk X pins H3 b) ∧ C = s3.heap.objs.size
section
variable {X : Cx} {N' : List Str} {scope : Scope} {cl : List (Str × Addr)} {C : Addr} {s3 : Shared} {H3 : Hp} {fp : List Addr} {E Ec : XK}
theorem comp_pass (L : Leaves X E) (h : ∀ cls d H', Ec cls d H' → E cls d H') (at0 : CompAt X C s3 H3 fp) : Passes (CXf X.prog X.w) (compXx X N' scope cl C s3 H3 fp) Ec := by
  intro pins σ H s e s' I hcx
  obtain ⟨pins0, σ0, I0, f0, hC⟩ := at0
  obtain ⟨a, cls, a0, H', B, rfl, os, bare, hfl, hn, hnew, hcl, hE⟩ := hcx
  have hfl' : Heap.FlyingW B (X.env :: X.outer) a cls a0 s'.heap := by rw [← L.stk]; exact hfl
  have hfr : X.A.frames = some (X.env :: X.outer) := by rw [← L.stk]; exact I0.ok.frames
  have J1 : Inv (compXx X N' scope cl C s3 H3 fp) pins σ H' s' := by
    obtain ⟨un, ok⟩ := hcl s'.heap hfl.1 (Heap.UpToSlots.refl _)
    exact I.call' (ch := []) os un ok bare fun b hb => nomatch hb
  obtain ⟨m, hns, _⟩ := id J1.loc
  have hns : s'.heap.Ns C m := hns
  have Cst : C ∉ frs X.stack := fun z => by
    obtain ⟨_, o, ho, _⟩ := I0.stack.mem z
    have := Heap.lt_size ho
    rw [hC] at this; exact absurd this (Nat.lt_irrefl _)
  obtain ⟨oC, es, ep, hoC, hdC, hrC⟩ := id hns
  show wpAny (model X.prog X.w) X.A (noteFrame (.ref a) X.env) (fun _ s'' => compErr X C (.ref a) s'') (compErr X C) s'
  refine wpAny_looks_onW hfr L.fr hfl' fun h1 hheld up1 => ?_
  refine ⟨m, up1.ns hns, fun h' hs cenv _ => ?_⟩
  obtain ⟨o1, es1, ep1, ho1, hd1, _⟩ := up1.ns hns
  obtain ⟨b1, b2, b3, b4⟩ := hheld
  have sm : ∀ b, b ≠ C → h'.get? b = h1.get? b := fun b n => hs.2 b n
  have noF : ∀ b o ws, h1.get? b = some o → o.data = .fields ws → b ≠ C := by
    rintro b o ws e1 e2 rfl
    rw [ho1] at e1; cases e1; rw [hd1] at e2; cases e2
  -- the smaller base
  have hB : ∀ b o, (PySem.W.hideAll B [C]).get? b = some o → b ≠ C ∧ B.get? b = some o := fun b o e => by
    refine ⟨?_, PySem.W.of_hideAll _ e⟩
    rintro rfl
    rw [PySem.W.hideAll_none [b] (.head _)] at e; cases e
  have nB : ∀ b, B.get? b = none → (PySem.W.hideAll B [C]).get? b = none := fun b e => by
    cases q : (PySem.W.hideAll B [C]).get? b with
    | none => rfl
    | some o => rw [(hB b o q).2] at e; cases e
  have c1 : (PySem.W.hideAll B [C]).StaysIn h' := fun b o e => by
    obtain ⟨n, e'⟩ := hB b o e
    rw [sm b n]; exact b1 b o e'
  have c3 : ∀ l : List Env, (∀ b ∈ frs l, b ∈ frs (X.env :: X.outer)) → h1.FunFrames B l → h'.FunFrames (PySem.W.hideAll B [C]) l := by
    intro l
    induction l with
    | nil => intro _ _; trivial
    | cons en r ih =>
      rintro hm ⟨q1, ⟨L1, o, q2, q3, q4, q5⟩, q6⟩
      refine ⟨q1, ⟨L1, o, q2, nB _ q3, ?_, q5⟩, ih (fun b hb => hm b ?_) q6⟩
      · rw [sm L1 fun z => ?_]; exact q4
        have := hm L1 (List.mem_filterMap.mpr ⟨en, .head _, q2⟩)
        rw [← L.stk, z] at this; exact Cst this
      · obtain ⟨en', h1', h2'⟩ := List.mem_filterMap.mp hb
        exact List.mem_filterMap.mpr ⟨en', List.mem_cons_of_mem _ h1', h2'⟩
  have c4 : h'.TracedAtW (PySem.W.hideAll B [C]) a cls a0 (rawInt X.env.locals) := by
    obtain ⟨oe, vs, T, oT, ts, he, hc, hd, g1, nT, Te, hT, dT, g3⟩ := b4
    exact ⟨oe, vs, T, oT, ts, by rw [sm a (noF a oe vs he hd)]; exact he, hc, hd, g1, nB T nT, Te, by rw [sm T (noF T oT ts hT dT)]; exact hT, dT, g3⟩
  have c5 := c3 _ (fun _ hb => hb) b3
  unfold PySem.passOn
  obtain ⟨oe, vs, T, oT, ts, he, hc, hd, g1, nT, Te, hT, dT, g3⟩ := id c4
  refine wpAny_bind (wpAny_field he hd g1 ?_)
  rw [if_neg (show ¬ ((Value.ref T == Value.none) = true) from by simp)]
  refine wpAny_bind (mark_set (s := { s' with heap := h' }) c1 c5 c4 fun h2 d1 d2 d3 up2 => wpAny_throw (L.xe _ _ ?_))
  refine leave_any (s := { s' with heap := h2 }) hfr L.fr d1 (nB a b2) d2 d3 fun h3 hfly up3 => ?_
  have anew : X.s₀.heap.get? a = none := by
    cases q : X.s₀.heap.get? a with
    | none => rfl
    | some o =>
      exfalso
      obtain ⟨o2, q2⟩ := I0.base.there a o q (by rw [L.ex]; simp)
      have nf : a ∉ fp := fun z => by
        rcases (f0 a z).2.2.2.1 with y | y
        · rw [L.ex] at y; cases y
        · exact absurd (Nat.lt_of_lt_of_le (Heap.lt_size q) y) (Nat.lt_irrefl _)
      obtain ⟨o3, q3⟩ := I.base.there a o2 q2 nf
      rw [hnew] at q3; cases q3
  refine ⟨a, cls, a0, H', _, rfl, (os.trans I.os).trans I0.os, bare, hfly, hn, anew, fun h4 k1 k2 => ?_, h _ _ _ hE⟩
  -- the block's names as they were
  have upb : ∀ b o, b ≠ C → s'.heap.get? b = some o → (∀ ws, o.data ≠ .fields ws) → ∃ sl, h4.get? b = some { o with slots := sl } := fun b o n e1 e2 => by
    obtain ⟨s1, r1⟩ := up1 b o e1 e2
    have r2 : h'.get? b = some { o with slots := s1 } := by rw [sm b n]; exact r1
    obtain ⟨s2, r3⟩ := up2 b _ r2 e2
    obtain ⟨s3', r4⟩ := up3 b _ r3 e2
    obtain ⟨s4, r5⟩ := k2 b _ r4 e2
    exact ⟨s4, r5⟩
  obtain ⟨hr, hrs, hro⟩ := put_at h4 C (Heap.get?_some_iff.mp hoC).2
  obtain ⟨un, ok⟩ := hcl hr (fun b o e => by
      by_cases z : b = C
      · subst z
        have := hfl.1 b o e
        rw [hoC] at this; cases this; exact hrs
      · rw [hro b z]
        exact k1 b o (PySem.W.hideAll_get [C] e (by simpa using z))) (fun b o e n => by
      by_cases z : b = C
      · subst z
        rw [hoC] at e; cases e; exact ⟨oC.slots, hrs⟩
      · obtain ⟨sl, r⟩ := upb b o z e n
        exact ⟨sl, by rw [hro b z]; exact r⟩)
  have J2 : Inv (compXx X N' scope cl C s3 H3 fp) pins σ H' { s' with heap := hr } := I.call' (ch := []) os un ok bare fun b hb => nomatch hb
  have J3 := comp_end (h2 := h4) I0 f0 hC J2.unwish (fun b n => (hro b n).symm)
  have := J3.base
  rw [L.ex] at this
  exact ⟨this, J3.hok⟩
end
section
variable {X : Cx} {N' : List Str} {js : List (Option Nat)} {scope : Scope} {cl : List (Str × Addr)} {tg iter elt : Expr} {ifs : List Expr} {wi : TI} {g : TG} {tt : TT} {te : TE} {pos : Pos}
theorem comp_loopX {pins : List (Addr × Obj)} {σ : St} {H1 : Hp} {s2 : Shared} {it : Addr} {fp : List Addr} {tn : Nat → Heap → Prop} {J : It} {F : Addr → Hp → Prop} {E : Value → Shared → Prop} {PP : Value → Addr → Result → Shared → Prop} (hc : X.calm = true) (O : CompOk X N' js scope cl)
    (hg : ∀ C s H fp, CompAt X C s H fp → PG (compXx X N' scope cl C s H fp) tg g) (hi : ∀ C s H fp, CompAt X C s H fp → PIfs (compXx X N' scope cl C s H fp) ifs tt) (he : ∀ C s H fp, CompAt X C s H fp → PE (compXx X N' scope cl C s H fp) elt te)
    (I2 : Inv X pins σ H1 s2) (T : Turn X.prog X.w X.K tg J fp it tn) (st2 : tn 0 s2.heap) (f2 : ∀ b ∈ fp, FpOk X pins H1 b)
    (q : ∀ D, H1 D = none → compW J g tt te D (compSt js σ) H1 (F D)) (bad : ∀ acc C x s', compErr X C x s' → PP acc C (.error x) s')
    (fin : ∀ (D C : Addr) (H' : Hp) (s' : Shared), F D H' → (∃ m, s'.heap.Ns C m) → FpOk X pins H' C → (∀ h2, Heap.SameBut C s'.heap h2 → Inv X pins σ H' { s' with heap := h2 }) → PP (.ref D) C (.ok .next) s') :
    wpAny (model X.prog X.w) X.A (newList []) (fun acc s₃ => wpAny (model X.prog X.w) X.A (newFunctionEnv scope X.env.globals cl [] X.env.qual none .none (some X.env)) (fun cenv s₄ =>
      codeAny (model X.prog X.w) X.A (.compStart (.ListComp elt [⟨tg, iter, ifs, 0⟩] scope pos) 0 (.ref it) acc { cenv with scope := relabel scope X.env }) (PP acc cenv.locals) s₄) E s₃) E s2 := by
  refine wpAny_newObj_type ?_
  have fD : H1 s2.heap.objs.size = none := I2.fresh
  generalize hD : s2.heap.objs.size = D at fD
  have I3 : Inv X pins σ (upd H1 D (.lst [])) { s2 with heap := s2.heap.push { cls := .type "list", dict := none, data := .seq ([] : List Value).toArray } } := by
    rw [← hD]; exact I2.lnew (t' := s2.toks) .nil (Nat.zero_le _)
  have kD : ∀ b o, s2.heap.get? b = some o → (s2.heap.push { cls := .type "list", dict := none, data := .seq ([] : List Value).toArray }).get? b = some o := fun b o e => Heap.get?_push_of_some _ e
  have bD : ∀ b ∈ fp, b < s2.heap.objs.size := fun b hb => by obtain ⟨o, e, _⟩ := T.obj 0 _ st2 b hb; exact Heap.lt_size e
  have f3 : ∀ b ∈ fp, FpOk X pins (upd H1 D (.lst [])) b := fun b hb => by
    obtain ⟨a0, a1⟩ := f2 b hb
    refine ⟨?_, a1⟩
    rw [upd_ne (by rintro rfl; rw [← hD] at hb; exact absurd (bD _ hb) (Nat.lt_irrefl _))]; exact a0
  refine wpAny_newFunctionEnv O.nocell (by intro y hy; simp at hy) (fun h₁ hns₁ hsb₁ => ?_) O.kind
  dsimp only at hns₁ hsb₁ ⊢
  generalize hs3 : ({ s2 with heap := s2.heap.push { cls := .type "list", dict := none, data := .seq ([] : List Value).toArray } } : Shared) = s3 at I3
  have eh : s2.heap.push { cls := .type "list", dict := none, data := .seq ([] : List Value).toArray } = s3.heap := by rw [← hs3]
  have hss : ∀ (h : Heap) (t : Nat), ({ s2 with heap := h, toks := t } : Shared) = { s3 with heap := h, toks := t } := fun h t => by rw [← hs3]
  rw [eh] at hns₁ hsb₁ kD
  have k1 : ∀ b o, s3.heap.get? b = some o → h₁.get? b = some o := fun b o e => hsb₁.extBut b o (Nat.ne_of_lt (Heap.lt_size e)) (Heap.get?_push_of_some _ e)
  generalize hCC : s3.heap.objs.size = C at hns₁ hsb₁
  have b3 : ∀ b ∈ fp, b < s3.heap.objs.size := fun b hb => by
    obtain ⟨o, e, _⟩ := T.obj 0 _ st2 b hb
    exact Heap.lt_size (kD _ _ e)
  have J0 := Inv.wish (E := notedBy (model X.prog X.w) X.A (compEnvC scope cl C X.env) (compErr X C)) <| comp_start (h1 := h₁) (tk := s2.toks + ([] : List (Str × Value)).length) (ob := { cls := .none, data := .fields #[] }) I3 O f3 b3 hCC.symm hns₁ k1
  have t0 : tn 0 h₁ := T.keep 0 _ _ st2 fun b hb o e => k1 _ _ (kD _ _ e)
  have at0 : CompAt X C s3 (upd H1 D (.lst [])) fp := ⟨pins, σ, I3, f3, hCC.symm⟩
  obtain ⟨W, ⟨m0, w0⟩, turn⟩ := q D fD
  have fr0 : ∀ b ∈ fp, upd H1 D (.lst []) b = none := fun b hb => (f3 b hb).1
  have loop : ∀ s₄ : Shared, s₄ = { s3 with heap := h₁, toks := s2.toks + ([] : List (Str × Value)).length } →
      codeAny (model X.prog X.w) X.A (.compLoop (.ListComp elt [⟨tg, iter, ifs, 0⟩] scope pos) 0 (.ref it) (.ref D) (compEnvC scope cl C X.env)) (PP (.ref D) C) s₄ := by
    rintro s₄ rfl
    refine codeAny_loop rfl (fun n s' => ∃ i σ' ys H', Inv (compXx X N' scope cl C s3 (upd H1 D (.lst [])) fp) [] σ' H' s' ∧ tn i s'.heap ∧ (∀ b ∈ fp, H' b = none) ∧ W i n σ' ys H') (fun n s5 hI => ?_) m0 ⟨0, _, [], _, J0, t0, fr0, w0⟩
    obtain ⟨i, σ5, ys, H5, I5, t5, fr5, w5⟩ := hI
    show wpAny _ X.A ((compTurn (.ListComp elt [⟨tg, iter, ifs, 0⟩] scope pos) 0 (.ref it) (.ref D) (compEnvC scope cl C X.env)).onRaise (fun x => do noteFrame x (compEnvC scope cl C X.env); theTreesLotGoes x)) _ _ s5
    refine wpAny_noted ?_
    refine wpAny_mono (E := notedBy (model X.prog X.w) X.A (compEnvC scope cl C X.env) (compErr X C)) ?_ (fun _ _ z => z) (fun x s' z => wpAny_mono z (fun _ s'' z => bad _ _ _ _ z) fun _ _ z => bad _ _ _ _ z)
    rw [compTurn_list]
    have stat : ∀ {H' : Hp}, (∀ b ∈ fp, H' b = none) → ∀ b ∈ fp, FpOk (compXx X N' scope cl C s3 (upd H1 D (.lst [])) fp) [] H' b := fun hn b hb => by
      obtain ⟨a0, a1, a2, a3, a4, a5⟩ := f3 b hb
      refine ⟨hn b hb, (I5.ok.exf b hb).1, I5.ok.exfs b hb, .inl hb, (I5.ok.exf b hb).2, fun p hp => absurd (show p ∈ ([] : List (Addr × Obj)) from hp) (by simp)⟩
    obtain ⟨eD, lD, way⟩ := turn i n σ5 ys H5 w5
    refine wpAny_bind (wpAny_standAt (wpAny_bind ?_))
    rcases way with ⟨stop, fH⟩ | ⟨go, step⟩
    · refine thn (T.done (compXx X N' scope cl C s3 (upd H1 D (.lst [])) fp) rfl rfl rfl hc i [] s5 σ5 H5 _ I5 (stat fr5) t5 stop) fun r s6 ⟨hr, I6⟩ => ?_
      subst hr
      refine wpAny_pure ?_
      obtain ⟨mC, nC, _⟩ := I6.loc
      exact fin D C H5 s6 fH ⟨mC, nC⟩ (I3.fpOk (Nat.le_of_eq hCC) I6.free) fun h2 hs => comp_end I3 f3 hCC.symm I6.unwish hs.2
    · refine thn (T.item (compXx X N' scope cl C s3 (upd H1 D (.lst [])) fp) rfl rfl rfl hc i [] s5 σ5 H5 _ I5 (stat fr5) t5 go) fun r s6 ⟨u, hr, h6⟩ => ?_
      subst hr
      refine wpAny_bind (thn h6 fun _ s7 ⟨x, H7, I7, r7, y7, t7, fr7⟩ => ?_)
      have I7' := I7.pinned (stat fr7) (T.obj _ _ t7)
      have again : ∀ {σ8 : St} {H8 : Hp} {s8 : Shared} {ys' : List V}, Inv (compXx X N' scope cl C s3 (upd H1 D (.lst [])) fp) ([] ++ pinsAt fp s7.heap) σ8 H8 s8 → (∃ m', m' < n ∧ W (i + 1) m' σ8 ys' H8) →
          ∃ m, m < n ∧ ∃ i σ' ys H', Inv (compXx X N' scope cl C s3 (upd H1 D (.lst [])) fp) [] σ' H' s8 ∧ tn i s8.heap ∧ (∀ b ∈ fp, H' b = none) ∧ W i m σ' ys H' := fun {σ8 H8 s8 ys'} I8 ⟨m', hm, w8⟩ => by
        refine ⟨m', hm, i + 1, σ8, ys', H8, I8.unpinned, T.keep _ _ _ t7 fun b hb o e => (I8.pin (b, o) (List.mem_append_right _ (List.mem_append_right _ (mem_pinsAt hb e)))).1, fun b hb => ?_, w8⟩
        obtain ⟨o, e, d⟩ := T.obj _ _ t7 b hb
        exact (I8.pin (b, o) (List.mem_append_right _ (List.mem_append_right _ (mem_pinsAt hb e)))).2.1
      refine wpAny_bind ((thn (hg C s3 _ fp at0 _ s7 σ5 H7 x u _ I7' r7 (step x H7 y7)) fun _ s8 ⟨σ8, H8, I8, q8⟩ => ?_))
      refine wpAny_bind ((thn (hi C s3 _ fp at0 _ s8 σ8 H8 _ I8 q8) fun ok s9 ⟨H9, I9, q9⟩ => ?_))
      cases ok with
      | false =>
        rw [if_neg Bool.false_ne_true] at q9
        exact wpAny_pure ⟨rfl, again I9 q9⟩
      | true =>
        rw [if_pos rfl] at q9
        refine wpAny_bind (wpAny_bind ((thn (he C s3 _ fp at0 _ s9 σ8 H9 _ I9 q9) fun uv s10 ⟨v, H10, I10, r10, eD10, q10⟩ => ?_)))
        refine wpAny_bind ((thn (mt_append (X := compXx X N' scope cl C s3 (upd H1 D (.lst [])) fp) _ s10 σ8 H10 (.ref D) [v] (.ref D) [uv] (fun _ H11 => ∃ m', m' < n ∧ W (i + 1) m' σ8 (ys ++ [v]) H11) I10 rfl (.cons r10 .nil) ⟨D, ys, v, rfl, rfl, eD10, lD, q10⟩) fun _ s11 ⟨_, H11, I11, _, q11⟩ => ?_))
        exact wpAny_pure (wpAny_pure ⟨rfl, again I11 q11⟩)
  rw [show ({ s2 with heap := h₁, toks := s2.toks + ([] : List (Str × Value)).length } : Shared) = { s3 with heap := h₁, toks := s2.toks + ([] : List (Str × Value)).length } from hss _ _]
  have eC : (s2.heap.push { cls := .type "list", dict := none, data := .seq ([] : List Value).toArray }).objs.size = C := by rw [eh]; exact hCC
  rw [eC]
  exact codeAny_compStart_list (loop _ rfl) (T.self X.A 0 _ _ _ t0 (loop _ rfl))

theorem pe_compX (hc : X.calm = true) (O : CompOk X N' js scope cl) (hit : PI X tg iter wi) (hg : ∀ C s H fp, CompAt X C s H fp → PG (compXx X N' scope cl C s H fp) tg g) (hi : ∀ C s H fp, CompAt X C s H fp → PIfs (compXx X N' scope cl C s H fp) ifs tt) (he : ∀ C s H fp, CompAt X C s H fp → PE (compXx X N' scope cl C s H fp) elt te)
    (hs : ∀ x, foldedSetIterable iter X.env x = pure x := by intro _; rfl) : PE X (.ListComp elt [⟨tg, iter, ifs, 0⟩] scope pos) (tComp wi g tt te js) := by
  intro pins s σ H Q I h
  rw [eval_ListComp]
  refine wpAny_comprehension_free (use := none) rfl hs O.clos O.kind O.names (thn (hit pins s σ H _ I h) fun v s1 h1 => thn h1 fun itv s2 h2 => ?_)
  obtain ⟨it, fp, tn, J, H2, e, I2, T, st2, f2, q⟩ := h2
  subst e
  exact comp_loopX (PP := fun acc C => compPost (model X.prog X.w) X.A X.xe none (EP X pins σ Q) acc C) (F := fun D H' => Q (.ref D) H') hc O hg hi he I2 T st2 f2 q (fun _ _ _ _ z => z)
    fun D C H' s' fH hn _ inv => by
      obtain ⟨m, hm⟩ := hn
      exact ⟨m, hm, fun h' hs' => ⟨.ref D, H', inv h' hs', rfl, fH⟩⟩
end
end L2

set_option Elab.async false
set_option linter.all false
set_option maxRecDepth 100000
set_option autoImplicit false
namespace L2
open PySem PySem.Spec PyProof.Rows

/-! ### texts: a text is its signs' codes -/
def tx (l : List Nat) : Str := ⟨l.toArray⟩
theorem tx_len (l : List Nat) : (tx l).length = l.length := by show l.toArray.size = _; simp
theorem tx_app (a b : List Nat) : tx a ++ tx b = tx (a ++ b) := by
  show Str.mk (a.toArray ++ b.toArray) = Str.mk (a ++ b).toArray
  congr 1; simp
theorem tx_inj {a b : List Nat} (h : tx a = tx b) : a = b := by
  have := congrArg (fun z : Str => z.cps.toList) h
  simpa [tx] using this
theorem tx_nil : (Str.ofString "") = tx [] := by decide +kernel
theorem tx_o : (Str.ofString "o") = tx [111] := by decide +kernel
theorem tx_d : (Str.ofString ".") = tx [46] := by decide +kernel
theorem join0 : ∀ ls : List (List Nat), Str.join (tx []) (ls.map tx) = tx ls.flatten
  | [] => rfl
  | [a] => by show tx a = tx ([a].flatten); simp
  | a :: b :: r => by
    show tx a ++ tx [] ++ Str.join (tx []) ((b :: r).map tx) = _
    rw [join0 (b :: r), tx_app, tx_app]; simp
theorem strs_of : ∀ {zs : List Str} {its : List Value}, Vals (zs.map V.str) its → ∃ l : List (Str × Tok), strValues l = its ∧ l.map (·.1) = zs
  | [], _, .nil => ⟨[], rfl, rfl⟩
  | z :: zs, _, .cons r rr => by
    obtain ⟨t, rfl⟩ := r
    obtain ⟨l, e1, e2⟩ := strs_of rr
    exact ⟨(z, t) :: l, by rw [← e1]; rfl, by rw [← e2]; rfl⟩
section
variable {X : Cx}
/-- sep.join(xs) of a list of texts -/
def rJoin (K : PySem.W.Frag) : V → List V → Hp → VK → Prop := fun x xs H Q => ∃ (sep : Str) (a : Addr) (zs : List Str), x = .str sep ∧ xs = [.ref a] ∧ SqL K H a (zs.map V.str) ∧ (zs.map (·.length)).sum + zs.length * sep.length ≤ sizeLine ∧ Q (.str (Str.join sep zs)) H
theorem join_fit {sep : Str} {zs : List Str} (h : (zs.map (·.length)).sum + zs.length * sep.length ≤ sizeLine) : Builtin.Str.tooLong (zs.toArray.foldl (· + ·.length + sep.length) 0) = false := by
  rw [StrLaws.joinTotal]
  exact decide_eq_false (Nat.not_lt.mpr h)
theorem mt_join : MtR X "str.join" (rJoin X.K) := by
  intro pins s σ H x xs v us Q I rx rv h
  obtain ⟨sep, a, zs, rfl, rfl, hS, hz, q⟩ := h
  obtain ⟨t, rfl⟩ := rx
  obtain ⟨u, rfl, ru⟩ := rv.one
  cases ru
  obtain ⟨its, r, pl, hl⟩ := I.list hS
  obtain ⟨l, rfl, rfl⟩ := strs_of r
  have hok := join_fit hz
  have e : Txt.join sep (l.map (·.1)) = Str.join sep (l.map (·.1)) := StrLaws.glued_eq_join sep _
  exact call_meets F.slot_str_join (typeIs_str _ _ _) F.entry_str_join (F.args_str_join_2 _ _) (meets_str_join_list sep t a l hok) ⟨pl.isList, post_join l ⟨joinFit_length hok, fun t' k => ⟨.str _, H, I.tok _, ⟨_, rfl⟩, by rw [e]; exact q⟩⟩⟩
theorem r_join {K : PySem.W.Frag} {H : Hp} {Q : VK} {a : Addr} {ls : List (List Nat)} (s : SqL K H a (ls.map fun l => V.str (tx l))) (z : ls.flatten.length ≤ sizeLine) (k : Q (.str (tx ls.flatten)) H) : rJoin K (.str (tx [])) [.ref a] H Q := by
  refine ⟨tx [], a, ls.map tx, rfl, rfl, by rw [List.map_map]; exact s, ?_, by rw [join0]; exact k⟩
  have h1 : (ls.map tx).length * (tx []).length = 0 := by rw [tx_len]; simp
  rw [h1, List.map_map, Nat.add_zero]
  refine Nat.le_trans (Nat.le_of_eq ?_) z
  rw [List.length_flatten]
  congr 1

/-! sep.join(reversed(xs)) -/
theorem collect_lri {prog : Program} {w : World} {A : Around} {E : Value → Shared → Prop} {s : Shared} {Q : List Value → Shared → Prop} {I l : Addr} {items : Array Value} (hh : A.handled = none) (hne : l ≠ I)
    (hI : s.heap.IsRevIter I l ((items.size : Int) - 1)) (hl : s.heap.IsList l items) (hn : items.size ≤ sizeLine)
    (hQ : ∀ h' tk acc', (∀ b o, b ≠ I → s.heap.get? b = some o → h'.get? b = some o) → ItemsOf (fun i v => items[items.size - 1 - i]? = some v) acc' items.size → Q acc'.toList { s with heap := h', toks := tk }) :
    wpAny (model prog w) A (collect (.ref I)) Q E s := by
  have key : ∀ R : Result → Shared → Prop, (∀ h' tk acc' c', (∀ b o, b ≠ I → s.heap.get? b = some o → h'.get? b = some o) → h'.get? s.heap.objs.size = some { cls := .type "list", dict := none, data := .seq acc' c', slots := #[] } →
      ItemsOf (fun i v => items[items.size - 1 - i]? = some v) acc' items.size → R (.ok (.ret (.ref s.heap.objs.size))) { s with heap := h', toks := tk }) → codeAny (model prog w) A (.builtin "proto.collect" ⟨[.ref I], []⟩) R s := fun R hR => by
    refine codeAny_builtin PySem.F.entry_proto_collect ?_
    rw [Around.under_plainId PySem.F.plain_proto_collect _]
    show wpAny _ A.in1 (newList [] >>= fun l => again (.builtin "list.__iadd__" ⟨[l, .ref I], []⟩)) _ _ s
    refine wpAny_bind (wpAny_newObj_type ?_)
    refine wpAny_pure ⟨plainId_quiet PySem.F.plain_list_iadd _, codeAny_builtin PySem.F.entry_list_iadd ?_⟩
    rw [Around.under_plainId PySem.F.plain_list_iadd _]
    have ltI : I < s.heap.objs.size := by obtain ⟨o, e, _⟩ := hI; exact Heap.lt_size e
    have ltl : l < s.heap.objs.size := by obtain ⟨o, e, _⟩ := hl; exact Heap.lt_size e
    have hS : (s.heap.push { cls := .type "list", data := .seq ([] : List Value).toArray }).get? s.heap.objs.size = some { cls := .type "list", data := .seq #[] } := Heap.get?_push_size _ rfl
    exact lri_extend (s := { s with heap := s.heap.push { cls := .type "list", data := .seq ([] : List Value).toArray } }) (R := R) hh hne s.heap.objs.size (Nat.ne_of_gt ltI) (Nat.ne_of_gt ltl) (.ref s.heap.objs.size) 0 (hI.at fun o e => Heap.get?_push_of_some _ e) (hl.at fun o e => Heap.get?_push_of_some _ e) hS
      (fun h' tk acc' c' hk hS' hacc => hR h' tk acc' c' (fun b o hb e => hk b o (Nat.ne_of_lt (Heap.lt_size e)) hb (Heap.get?_push_of_some _ e)) hS' hacc) hn
  unfold collect
  refine wpAny_bind (wpAny_runValue (key _ fun h' tk acc' c' hk hS' hacc => ?_))
  show wpAny _ A (load s.heap.objs.size >>= _) _ _ _
  refine wpAny_bind (wpAny_load hS' ?_)
  exact wpAny_pure (hQ h' tk acc' hk hacc)
def tJRev (K : PySem.W.Frag) (to : TE) (ta : TA) : TE := fun σ H Q => to σ H fun x H0 => ∃ sep, x = .str sep ∧ ta σ H0 fun vs H1 => ∃ (a : Addr) (zs : List Str), vs = [.ref a] ∧ SqL K H1 a (zs.map V.str) ∧ (zs.map (·.length)).sum + zs.length * sep.length ≤ sizeLine ∧ Q (.str (Str.join sep zs.reverse)) H1
theorem pe_jrev {o a : Expr} {to : TE} {ta : TA} {apos pos p2 pos2 : Pos} (hc : X.calm = true) (ho : PE X o to) (hg2 : Gl X "reversed") (hm2 : X.mg "reversed" = none) (ha : PA X [a] ta)
    (hbase : attributeBase o "join" X.env (eval o X.env) = eval o X.env := by rfl) (hline : (apos.endLine == pos.line) = true := by rfl) (hs : starEach [a] X.env = [(false, eval a X.env)] := by rfl)
    (ht : backTo pos (starEach [.Call (.Name "reversed" p2) [a] [] pos2] X.env) = [(false, eval (.Call (.Name "reversed" p2) [a] [] pos2) X.env)] := by rfl) :
    PE X (.Call (.Attribute o "join" apos) [.Call (.Name "reversed" p2) [a] [] pos2] [] pos) (tJRev X.K to ta) := by
  intro pins s σ H Q I h
  refine wpAny_Call_method1_late hbase hline ht (thn (ho pins s σ H _ I h) fun v s0 ⟨x, H0, I0, r0, q0⟩ => ?_)
  obtain ⟨sep, rfl, q0⟩ := q0
  obtain ⟨tk0, rfl⟩ := r0
  refine ⟨"str", "str.join", PySem.F.plainAttrs_str, PySem.F.slot_str_join, PySem.F.type_str_join, typeIs_str _ _ _, (fun a e => by cases e), ?_⟩
  refine Calls.callWith_builtin rfl (Calls.evalArgs_plain (Calls.spliced_cons ?_))
  refine Call_ (ld_blt I0 hg2 hm2 bt_reversed (PyProof.Rows.callWith_type1 (thn (ha pos2 pins s0 σ H0 _ I0 q0) fun us s1 ⟨vs, H1, I1, r1, q1⟩ => ?_) hs rfl))
  obtain ⟨l, zs, e, hS, hz, q⟩ := q1
  subst e
  obtain ⟨u, rfl, ru⟩ := vals1 r1
  cases (show u = Value.ref l from ru)
  obtain ⟨its, rv, pl, hz2⟩ := I1.list hS
  have hlen := rv.length
  refine PySem.call_reversed_list pl.isList ?_
  refine Calls.spliced_nil ?_
  have I2 : Inv X pins σ H1 { s1 with heap := s1.heap.push (PySem.revObj l ((its.toArray.size : Int) - 1)) } := I1.kept (t' := s1.toks) fun b o e => Heap.get?_push_of_some _ e
  have st : (s1.heap.push (PySem.revObj l ((its.toArray.size : Int) - 1))).IsRevIter s1.heap.objs.size l ((its.toArray.size : Int) - 1) := ⟨_, Heap.get?_push_size _ rfl, rfl, rfl⟩
  have hne : l ≠ s1.heap.objs.size := by
    obtain ⟨o, e, _⟩ := pl.isList
    exact Nat.ne_of_lt (Heap.lt_size e)
  obtain ⟨f0, f1, f2, f3, f4, f5⟩ := I1.fpOk (Nat.le_refl _) (I1.hok.fresh (Nat.le_refl _))
  refine wpAny_call (codeAny_call_builtin PySem.F.slot_str_join.plain PySem.F.entry_str_join (PySem.F.slot_str_join.check _ _ _ _ _ _ _ _ (typeIs_str _ _ _) (PySem.F.args_str_join_2 _ _) ?_))
  show wpAny _ X.A.in1 (Builtin.«str.join» ⟨[.str sep tk0, .ref s1.heap.objs.size], []⟩) _ _ _
  rw [join_tree_other]
  refine wpAny_bind (wpAny_typeOf (T := "list_reverseiterator") (Heap.IsRevIter.typeIs st) ?_)
  show wpAny _ X.A.in1 ((pyIter (.ref s1.heap.objs.size)).tryCatch _ >>= fun it => collect it >>= fun items => joinTail sep items) _ _ _
  refine wpAny_bind (wpAny_tryCatch (wpAny_pyIter_revIter st ?_))
  refine wpAny_bind (collect_lri (I.ok.hd hc) hne st (pl.isList.push _) (by rw [List.size_toArray]; omega) fun h' tk acc' hk hacc => ?_)
  have ea := items_rev hacc
  have rz : Vals ((zs.reverse).map V.str) its.reverse := by rw [List.map_reverse]; exact rv.reverse
  obtain ⟨l2, e1, e2⟩ := strs_of rz
  rw [ea, ← e1]
  have hz' : (zs.reverse.map (·.length)).sum + zs.reverse.length * sep.length ≤ sizeLine := by
    rw [List.length_reverse, List.map_reverse, List.sum_reverse]; exact hz
  have hok := join_fit hz'
  have g : Gives (joinTail sep (strValues l2)) (joinMade sep l2) := by
    have g0 := gives_joinTail sep l2 (by rw [e2]; exact hok)
    cases l2 with
    | nil => exact g0
    | cons p r => cases r with
      | nil => exact g0
      | cons q r' => exact g0
  have I3 : Inv X pins σ H1 { s1 with heap := h', toks := tk } := I2.turned (t' := tk) (fun b o hb e => hk b o hb e) f0 f1 f3 f4 f5
  have ej : Txt.join sep (l2.map (·.1)) = Str.join sep zs.reverse := by rw [e2]; exact StrLaws.glued_eq_join sep _
  refine g _ _ _ (wants _ _) _ (post_join l2 ⟨?_, fun t' k => ⟨.str _, H1, I3.tok _, ⟨_, rfl⟩, by rw [ej]; exact q⟩⟩)
  rw [e2]; exact joinFit_length hok
theorem r_jrev {K : PySem.W.Frag} {σ : St} {H : Hp} {to : TE} {ta : TA} {Q : VK} (h : to σ H fun x H0 => ∃ sep, x = .str sep ∧ ta σ H0 fun vs H1 => ∃ (a : Addr) (zs : List Str), vs = [.ref a] ∧ SqL K H1 a (zs.map V.str) ∧ (zs.map (·.length)).sum + zs.length * sep.length ≤ sizeLine ∧ Q (.str (Str.join sep zs.reverse)) H1) : tJRev K to ta σ H Q := h
/-! x + y of texts; a if c else b -/
def rCatS : R2 := fun x y H Q => ∃ i j, x = .str i ∧ y = .str j ∧ i.length + j.length ≤ sizeLine ∧ Q (.str (i ++ j)) H
theorem op_catS : OpR X (binaryOp .Add) rCatS := op_add_str
theorem r_catS {H : Hp} {Q : VK} {a b : List Nat} (z : a.length + b.length ≤ sizeLine) (k : Q (.str (tx (a ++ b))) H) : rCatS (.str (tx a)) (.str (tx b)) H Q := ⟨_, _, rfl, rfl, by rw [tx_len, tx_len]; exact z, by rw [tx_app]; exact k⟩
theorem r_rng1 {ta : TA} {σ : St} {H : Hp} {R : It → Hp → Prop} (h : ta σ H fun vs H1 => ∃ j : Int, vs = [.int j] ∧ -(2 ^ 62) ≤ j ∧ j < 2 ^ 62 ∧ R (Itr 0 j.toNat) H1) : iRng1 ta σ H R := h
theorem r_ifE {t : TT} {ta tb : TE} {σ : St} {H : Hp} {Q : VK} (h : t σ H fun c H1 => if c = true then ta σ H1 Q else tb σ H1 Q) : tIf t ta tb σ H Q := h
end
end L2

set_option Elab.async false
set_option linter.all false
set_option maxRecDepth 100000
set_option autoImplicit false
namespace L2
open PySem PySem.Spec PyProof.Rows

/-! ### t[lo:hi] of a text -/
def cutN (l : List Nat) (lo hi : Option Int) : List Nat := (l.drop (HT.sIx l.length 0 lo)).take (HT.sIx l.length l.length hi - HT.sIx l.length 0 lo)
theorem cutN_len (l : List Nat) (lo hi : Option Int) : (cutN l lo hi).length ≤ l.length := by
  unfold cutN; rw [List.length_take, List.length_drop]; omega
theorem six_clip (lo hi : Option Int) (n : Nat) : Builtin.Str.strSliceIndices lo hi 1 n = (List.range (HT.sIx n n hi - HT.sIx n 0 lo)).map (HT.sIx n 0 lo + ·) := by
  have e1 : (match lo with | none => (0 : Int) | some i => max 0 (min (if i < 0 then i + (n : Int) else i) (n : Int))) = ((HT.sIx n 0 lo : Nat) : Int) := by
    cases lo with
    | none => rfl
    | some i =>
      show max 0 (min (if i < 0 then i + (n : Int) else i) (n : Int)) = (((if i < 0 then (i + (n : Int)).toNat else min i.toNat n) : Nat) : Int)
      by_cases c : i < 0
      · rw [if_pos c, if_pos c]; omega
      · rw [if_neg c, if_neg c]; omega
  have e2 : (match hi with | none => (n : Int) | some i => max 0 (min (if i < 0 then i + (n : Int) else i) (n : Int))) = ((HT.sIx n n hi : Nat) : Int) := by
    cases hi with
    | none => rfl
    | some i =>
      show max 0 (min (if i < 0 then i + (n : Int) else i) (n : Int)) = (((if i < 0 then (i + (n : Int)).toNat else min i.toNat n) : Nat) : Int)
      by_cases c : i < 0
      · rw [if_pos c, if_pos c]; omega
      · rw [if_neg c, if_neg c]; omega
  have e3 : Builtin.Str.strSliceIndices lo hi 1 n = sliceRange ((HT.sIx n 0 lo : Nat) : Int) ((HT.sIx n n hi : Nat) : Int) 1 := by
    rw [← e1, ← e2]
    cases lo <;> cases hi <;> rfl
  rw [e3, sliceRange_one]
theorem slice_tx (l : List Nat) (lo hi : Option Int) : Txt.slice (tx l) lo hi = tx (cutN l lo hi) := by
  unfold Txt.slice
  have hl : (tx l).length = l.length := tx_len l
  rw [hl, six_clip, pick_run]
  have hc : ((tx l).cps.toList.drop (HT.sIx l.length 0 lo)).take (HT.sIx l.length l.length hi - HT.sIx l.length 0 lo) = cutN l lo hi := by
    unfold cutN tx; simp
  rw [hc]
  split
  · rename_i h
    have hlen : HT.sIx l.length l.length hi - HT.sIx l.length 0 lo = l.length := by simpa using h
    have hle : HT.sIx l.length l.length hi ≤ l.length := by
      cases hi with
      | none => exact Nat.le_refl _
      | some i =>
        show (if i < 0 then (i + (l.length : Int)).toNat else min i.toNat l.length) ≤ l.length
        split <;> omega
    have h0 : HT.sIx l.length 0 lo = 0 ∨ l.length = 0 := by omega
    unfold cutN
    rcases h0 with z | z
    · rw [z] at hlen ⊢
      rw [List.drop_zero, Nat.sub_zero, List.take_of_length_le (by omega)]
    · have : l = [] := List.length_eq_zero_iff.mp z
      subst this; simp
  · rfl
theorem part_of {v : Value} {o : Option Int} (h : IsPart v o) : ∃ p : Option (Int × Tok), v = partValue p ∧ p.map (·.1) = o := by
  cases h with
  | none => exact ⟨none, rfl, rfl⟩
  | int i t => exact ⟨some (i, t), rfl, rfl⟩
section
variable {X : Cx}
def rSlS : V → Option Int → Option Int → Hp → VK → Prop := fun x lo hi H Q => ∃ l : List Nat, x = .str (tx l) ∧ l.length ≤ sizeLine ∧ Q (.str (tx (cutN l lo hi))) H
theorem sl_str : SlR X rSlS := by
  intro pins s σ H x v vl vu lo hi sl Q I rx hs pl pu h
  obtain ⟨l, rfl, hz, q⟩ := h
  obtain ⟨t, rfl⟩ := rx
  obtain ⟨pl', rfl, rfl⟩ := part_of pl
  obtain ⟨pu', rfl, rfl⟩ := part_of pu
  refine ⟨"str", _, PySem.F.slot_str_getitem.lookup, typeIs_str _ _ _, ?_⟩
  refine wpAny_getItem_str_slice (l := pl') (u := pu') (st := none) hs rfl ?_
  exact post_val_or_str ⟨Nat.le_trans (Txt.slice_le (tx l) _ _) (by rw [tx_len]; exact hz), fun t' k => ⟨.str _, H, I.tok _, ⟨_, rfl⟩, by
    have := slice_tx l (pl'.map (·.1)) (pu'.map (·.1))
    show Q (.str (Txt.slice (tx l) (pl'.map (·.1)) (pu'.map (·.1)))) H
    rw [this]; exact q⟩⟩
theorem r_slS {H : Hp} {Q : VK} {l : List Nat} {lo hi : Option Int} (z : l.length ≤ sizeLine) (k : Q (.str (tx (cutN l lo hi))) H) : rSlS (.str (tx l)) lo hi H Q := ⟨l, rfl, z, k⟩
theorem cutN_nat (l : List Nat) (a b : Nat) : cutN l (some (a : Int)) (some (b : Int)) = (l.take b).drop a := by
  unfold cutN
  rw [HT.sIx_nat, HT.sIx_nat]
  by_cases h : a ≤ l.length
  · rw [Nat.min_eq_left h]
    by_cases h2 : b ≤ l.length
    · rw [Nat.min_eq_left h2, List.drop_take]
    · rw [Nat.min_eq_right (by omega), List.take_of_length_le (l := l) (by omega), List.take_of_length_le (by rw [List.length_drop]; exact Nat.le_refl _)]
  · rw [Nat.min_eq_right (a := a) (by omega), List.drop_length, List.take_nil, List.drop_eq_nil_of_le (by rw [List.length_take]; omega)]
theorem cutN_to (l : List Nat) (b : Nat) : cutN l none (some (b : Int)) = l.take b := by
  unfold cutN
  rw [HT.sIx_nat, HT.sIx_none, List.drop_zero, Nat.sub_zero]
  by_cases h2 : b ≤ l.length
  · rw [Nat.min_eq_left h2]
  · rw [Nat.min_eq_right (by omega), List.take_length, List.take_of_length_le (by omega)]
theorem cutN_from (l : List Nat) (a : Nat) : cutN l (some (a : Int)) none = l.drop a := by
  unfold cutN
  rw [HT.sIx_nat, HT.sIx_none]
  by_cases h : a ≤ l.length
  · rw [Nat.min_eq_left h, List.take_of_length_le (by rw [List.length_drop]; exact Nat.le_refl _)]
  · rw [Nat.min_eq_right (by omega), List.drop_length, List.take_nil, List.drop_eq_nil_of_le (by omega)]

/-! ### t * n -/
theorem foldl_txr (l : List Nat) : ∀ (n : Nat) (acc : List Nat), ((List.replicate n l.toArray).foldl (· ++ ·) acc.toArray) = (acc ++ (List.replicate n l).flatten).toArray
  | 0, acc => by simp
  | n + 1, acc => by
    rw [List.replicate_succ, List.foldl_cons, List.replicate_succ, List.flatten_cons]
    have := foldl_txr l n (acc ++ l)
    rw [← List.append_assoc, ← this]
    congr 1
    simp
theorem mul_tx (l : List Nat) (n : Int) : Txt.mul (tx l) n = tx (List.replicate n.toNat l).flatten := by
  unfold Txt.mul
  by_cases h1 : n < 1
  · rw [if_pos h1, show n.toNat = 0 by omega]; rfl
  · rw [if_neg h1]
    by_cases h2 : (n == 1 || (tx l).length == 0) = true
    · rw [if_pos h2]
      rcases Bool.or_eq_true_iff.mp h2 with z | z
      · have : n = 1 := by simpa using z
        subst this
        simp
      · have z' : l = [] := by
          rw [tx_len] at z
          exact List.length_eq_zero_iff.mp (by simpa using z)
        subst z'
        simp
    · rw [if_neg h2]
      have := foldl_txr l n.toNat []
      show Str.mk _ = Str.mk _
      rw [List.nil_append] at this
      exact congrArg Str.mk this
def rMulS : R2 := fun x y H Q => ∃ (l : List Nat) (n : Int), x = .str (tx l) ∧ y = .int n ∧ -1000 ≤ n ∧ n ≤ 1000 ∧ l.length ≤ 1000 ∧ Q (.str (tx (List.replicate n.toNat l).flatten)) H
theorem op_mulS : OpR X (binaryOp .Mult) rMulS := by
  intro pins s σ H x y v u Q I rx ry h
  obtain ⟨l, n, rfl, rfl, h1, h2, h3, q⟩ := h
  obtain ⟨t, rfl⟩ := rx
  obtain ⟨t', rfl⟩ := ry
  have ok : MulOk (tx l) n := by
    refine ⟨?_, fun h4 _ => ?_, fun h4 _ => ?_⟩
    · rw [decide_eq_false (show ¬ n < -(2 ^ 63 : Int) by omega), decide_eq_false (show ¬ n ≥ 2 ^ 63 by omega)]; rfl
    · rw [tx_len]
      intro h5
      have h6 : (1000 : Int) ≤ (2 ^ 63 - 1) / n := by
        rw [Int.le_ediv_iff_mul_le (by omega)]
        omega
      omega
    · rw [tx_len]
      refine decide_eq_false (Nat.not_lt.mpr ?_)
      have : l.length * n.toNat ≤ 1000 * 1000 := Nat.mul_le_mul h3 (by omega)
      exact Nat.le_trans this (by decide)
  exact SB.mul ok fun t' k => ⟨.str _, H, I.tok _, ⟨_, rfl⟩, by rw [mul_tx]; exact q⟩
theorem r_mulS {H : Hp} {Q : VK} {l : List Nat} {n : Int} (h1 : -1000 ≤ n) (h2 : n ≤ 1000) (h3 : l.length ≤ 1000) (k : Q (.str (tx (List.replicate n.toNat l).flatten)) H) : rMulS (.str (tx l)) (.int n) H Q := ⟨l, n, rfl, rfl, h1, h2, h3, k⟩

/-! ### t[i] -/
theorem r_ixS {H : Hp} {Q : VK} {l : List Nat} {n : Int} {c : Nat} (z : l.length ≤ sizeLine) (e : atI l n = some c) (k : Q (.str (tx [c])) H) : rIxS (.str (tx l)) (.int n) H Q :=
  ⟨tx l, n, c, rfl, rfl, by rw [tx_len]; exact z, by simpa [tx] using e, k⟩
end
/-! ### for c in t -/
def Its (l : List Nat) : It := ⟨fun i _ => i < l.length, fun i H x H' => H' = H ∧ ∃ c, l[i]? = some c ∧ x = .str (tx [c]), fun i _ => i = l.length⟩
def strIt (x : Str) : String := if x.cps.all (· < 128) = true then "str_ascii_iterator" else "str_iterator"
theorem turn_str {P : Program} {w : World} {K : PySem.W.Frag} {tg : Expr} (it : Addr) (l : List Nat) (t : Tok) : Turn P w K tg (Its l) [it] it (fun i h => i ≤ l.length ∧ h.IsStrIter it (strIt (tx l)) (tx l) t i) where
  mem := by simp
  obj := fun i h st b hb => by
    have e : b = it := by simpa using hb
    subst e
    obtain ⟨_, o, e, c, d⟩ := st
    exact ⟨o, e, fun v z => by rw [d] at z; cases z⟩
  keep := fun i h h' st k => by
    obtain ⟨h1, o, e, c, d⟩ := st
    exact ⟨h1, o, k it (by simp) o e, c, d⟩
  item := by
    intro X hP hw hK hc i pins s σ H E I hf st hg
    subst hP hw hK
    have hi : i < l.length := hg
    obtain ⟨f0, f1, f2, f3, f4, f5⟩ := hf it (by simp)
    have hx : (tx l).cps[i]? = some l[i] := by simp [tx, hi]
    have hl : l[i]? = some l[i] := List.getElem?_eq_getElem hi
    have fin : ∀ h' : Heap, h'.IsStrIter it (strIt (tx l)) (tx l) t (i + 1) → Heap.SameBut it s.heap h' → ∃ u, some (Value.str ⟨#[l[i]]⟩ s.toks) = some u ∧ wpAny (model X.prog X.w) X.A (letOwnedTupleGo tg (.ref it) u) (fun _ s2 => ∃ x H', Inv X pins σ H' s2 ∧ RelV x u ∧ (Its l).yld i H x H' ∧ (i + 1 ≤ l.length ∧ s2.heap.IsStrIter it (strIt (tx l)) (tx l) t (i + 1)) ∧ ∀ b ∈ [it], H' b = none) E { s with heap := h', toks := s.toks + 1 } := fun h' st' sb => by
      have I1 : Inv X pins σ H { s with heap := h', toks := s.toks + 1 } := I.turned (t' := s.toks + 1) (fun b o hb e => (sb.2 b hb).trans e) f0 f1 f3 f4 f5
      obtain ⟨o, e, c, d⟩ := id st'
      refine ⟨_, rfl, go_of (s := { s with heap := h', toks := s.toks + 1 }) e c d ?_ ⟨.str (tx [l[i]]), H, I1, ⟨_, rfl⟩, ⟨rfl, _, hl, rfl⟩, ⟨hi, st'⟩, fun b hb => (hf b hb).1⟩⟩
      unfold strIt; split <;> decide
    have st2 := st.2
    by_cases ca : (tx l).cps.all (· < 128) = true
    · have es : strIt (tx l) = "str_ascii_iterator" := by unfold strIt; rw [if_pos ca]
      rw [es] at st2
      exact wpAny_pyNext_ascii_item st2 hx fun h' st' sb => fin h' (by rw [es]; exact st') sb
    · have es : strIt (tx l) = "str_iterator" := by unfold strIt; rw [if_neg ca]
      rw [es] at st2
      exact wpAny_pyNext_wide_item st2 hx fun h' st' sb => fin h' (by rw [es]; exact st') sb
  done := by
    intro X hP hw hK hc i pins s σ H E I hf st hg
    subst hP hw hK
    obtain ⟨f0, f1, f2, f3, f4, f5⟩ := hf it (by simp)
    have hg' : i = l.length := hg
    have hx : (tx l).cps[i]? = none := by rw [hg']; simp [tx]
    have st2 := st.2
    by_cases ca : (tx l).cps.all (· < 128) = true
    · have es : strIt (tx l) = "str_ascii_iterator" := by unfold strIt; rw [if_pos ca]
      rw [es] at st2
      exact wpAny_pyNext_ascii_end (I.ok.hd hc) st2 hx fun h' eb => ⟨rfl, I.turned (t' := s.toks) (fun b o hb e => eb b o hb e) f0 f1 f3 f4 f5⟩
    · have es : strIt (tx l) = "str_iterator" := by unfold strIt; rw [if_neg ca]
      rw [es] at st2
      exact wpAny_pyNext_wide_end (I.ok.hd hc) st2 hx fun h' eb => ⟨rfl, I.turned (t' := s.toks) (fun b o hb e => eb b o hb e) f0 f1 f3 f4 f5⟩
  self := fun A i s Q E st h => by
    have st2 := st.2
    by_cases ca : (tx l).cps.all (· < 128) = true
    · have es : strIt (tx l) = "str_ascii_iterator" := by unfold strIt; rw [if_pos ca]
      rw [es] at st2
      exact wpAny_pyIter_striter_ascii st2 h
    · have es : strIt (tx l) = "str_iterator" := by unfold strIt; rw [if_neg ca]
      rw [es] at st2
      exact wpAny_pyIter_striter_wide st2 h
section
variable {X : Cx} {tg : Expr}
def iStr (te : TE) : TI := fun σ H R => te σ H fun x H1 => ∃ l : List Nat, x = .str (tx l) ∧ R (Its l) H1
theorem pi_str {e : Expr} {te : TE} (he : PE X e te) : PI X tg e (iStr te) := by
  intro pins s σ H R I h
  refine thn (he pins s σ H _ I h) fun v s1 ⟨x, H1, I1, r1, q1⟩ => ?_
  obtain ⟨l, rfl, q⟩ := q1
  obtain ⟨t, rfl⟩ := r1
  have fin : ∀ ty : String, ty = strIt (tx l) → PIE X pins σ tg R (.ref s1.heap.objs.size) { s1 with heap := s1.heap.push { cls := .type ty, data := .fields #[.str (tx l) t, .int 0 0] } } := fun ty ht => by
    refine ⟨s1.heap.objs.size, [s1.heap.objs.size], _, _, H1, rfl, I1.kept (t' := s1.toks) fun b o e => Heap.get?_push_of_some _ e, turn_str s1.heap.objs.size l t, ⟨Nat.zero_le _, _, Heap.get?_push_size _ rfl, by rw [← ht], rfl⟩, fun b hb => ?_, q⟩
    have e : b = s1.heap.objs.size := by simpa using hb
    subst e
    exact I1.fpOk (Nat.le_refl _) (I1.hok.fresh (Nat.le_refl _))
  by_cases ca : (tx l).cps.all (· < 128) = true
  · exact wpAny_pyIter_ascii ca (fin _ (by unfold strIt; rw [if_pos ca]))
  · exact wpAny_pyIter_wide (by simpa using ca) (fin _ (by unfold strIt; rw [if_neg ca]))
theorem r_istr {σ : St} {H : Hp} {te : TE} {R : It → Hp → Prop} (h : te σ H fun x H1 => ∃ l : List Nat, x = .str (tx l) ∧ R (Its l) H1) : iStr te σ H R := h
end
theorem for_str {l : List Nat} {g : TG} {tb : TS} {D : Ends} {σ : St} {H : Hp} (Pv : Nat → St → Hp → Prop) (h0 : Pv 0 σ H)
    (hs : ∀ i c σ H, l[i]? = some c → Pv i σ H → g (.str (tx [c])) σ H fun σ2 H2 => tb { D with nx := Pv (i + 1), ct := Pv (i + 1), bk := D.nx } σ2 H2) (hd : ∀ σ H, Pv l.length σ H → D.nx σ H) :
    ∃ W : Nat → Nat → St → Hp → Prop, (∃ m, W 0 m σ H) ∧ ∀ i m σ H, W i m σ H →
      ((Its l).stop i H ∧ D.nx σ H) ∨ ((Its l).go i H ∧ ∃ N : St → Hp → Prop, (∀ σ' H', N σ' H' → ∃ m', m' < m ∧ W (i + 1) m' σ' H') ∧ ∀ x H', (Its l).yld i H x H' → g x σ H' fun σ2 H2 => tb { D with nx := N, ct := N, bk := D.nx } σ2 H2) := by
  refine ⟨fun i m σ H => m = l.length - i ∧ i ≤ l.length ∧ Pv i σ H, ⟨l.length, by simp, Nat.zero_le _, h0⟩, ?_⟩
  rintro i m σ H ⟨rfl, hi, p⟩
  by_cases hlt : i < l.length
  · refine .inr ⟨hlt, Pv (i + 1), fun σ' H' p' => ⟨l.length - (i + 1), by omega, rfl, hlt, p'⟩, fun x H' y => ?_⟩
    obtain ⟨e, c, hc, rfl⟩ := y
    subst e
    exact hs i c σ _ hc p
  · have e : i = l.length := by omega
    subst e
    exact .inl ⟨rfl, hd σ H p⟩
theorem comp_str {l : List Nat} {g : TG} {te : TE} {D : Addr} {σ : St} {H1 : Hp} {F : Hp → Prop} (Pv : Nat → St → List V → Hp → Prop) (h0 : Pv 0 σ [] (upd H1 D (.lst []))) (hD : ∀ i σ ys H, i ≤ l.length → Pv i σ ys H → H D = some (.lst ys) ∧ ys.length < sizeLine)
    (hs : ∀ i c σ ys H, l[i]? = some c → Pv i σ ys H → oneW l.length i g te D Pv (.str (tx [c])) σ ys H) (hd : ∀ σ ys H, Pv l.length σ ys H → F H) : compW (Its l) g tTrue te D σ H1 F := by
  refine ⟨fun i m σ ys H => m = l.length - i ∧ i ≤ l.length ∧ Pv i σ ys H, ⟨l.length, rfl, Nat.zero_le _, h0⟩, ?_⟩
  rintro i m σ ys H ⟨rfl, hi, p⟩
  refine ⟨(hD i σ ys H hi p).1, (hD i σ ys H hi p).2, ?_⟩
  by_cases c : i < l.length
  · refine .inr ⟨c, ?_⟩
    rintro x H2 ⟨rfl, cc, hcc, rfl⟩
    exact hs i cc σ ys _ hcc p
  · have e : i = l.length := by omega
    subst e
    exact .inl ⟨rfl, hd σ ys H p⟩

/-! ### t.count(c), t.find(u), t.find(u, i) -/
theorem countIn_count (c : Nat) (l : List Nat) : countIn (.str ⟨#[c]⟩) (l.map fun n => PyData.str ⟨#[n]⟩) = ((l.count c : Nat) : Int) := by
  have key : ∀ (n : Nat) (l : List Nat), l.length = n → countIn (.str ⟨#[c]⟩) (l.map fun n => PyData.str ⟨#[n]⟩) = ((l.count c : Nat) : Int) := by
    intro n
    induction n with
    | zero => intro l h; rw [List.length_eq_zero_iff.mp h]; rfl
    | succ n ih =>
      intro l h
      rcases List.eq_nil_or_concat l with rfl | ⟨m, a, rfl⟩
      · simp at h
      · rw [List.concat_eq_append] at h ⊢
        rw [List.map_append, List.map_singleton, PyProof.Rows.FinIter.countIn_snoc, ih m (by simpa using h), List.count_append]
        have e : same (.str ⟨#[a]⟩) (.str ⟨#[c]⟩) = (a == c) := by
          show ((⟨#[a]⟩ : Str) == (⟨#[c]⟩ : Str)) = (a == c)
          rw [Bool.eq_iff_iff]; simp
        rw [e]
        by_cases z : a = c
        · subst z; simp
        · simp [z]
  exact key _ l rfl
theorem occ_kept (s sub : Str) (hi : Nat) : ∀ (r : List Nat) (a : Array Nat) (free : Nat), 1 ≤ a.size → (forIn r (a, free) (StrLaws.occBody s sub hi 1)).run.fst = a
  | [], _, _, _ => rfl
  | i :: r, a, free, h => by
    rw [List.forIn_cons]
    unfold StrLaws.occBody
    rw [if_neg (fun z => absurd (show a.size < 1 from z.1.1.1) (by omega))]
    exact occ_kept s sub hi r a free h
theorem first_occ (s sub : Str) (hi : Nat) : ∀ (r : List Nat) (free : Nat), (∀ i ∈ r, free ≤ i) →
    (forIn r ((#[] : Array Nat), free) (StrLaws.occBody s sub hi 1)).run.fst.toList = match r.find? (fun i => decide (i + sub.length ≤ hi) && Builtin.Str.subAt s sub i) with | some k => [k] | none => []
  | [], _, _ => rfl
  | i :: r, free, h => by
    rw [List.forIn_cons, List.find?_cons]
    by_cases c : i + sub.length ≤ hi ∧ Builtin.Str.subAt s sub i = true
    · have e : (decide (i + sub.length ≤ hi) && Builtin.Str.subAt s sub i) = true := by rw [decide_eq_true c.1, c.2]; rfl
      rw [e]
      unfold StrLaws.occBody
      rw [if_pos ⟨⟨⟨by simp, h i (.head _)⟩, c.1⟩, c.2⟩]
      show (forIn r ((#[] : Array Nat).push i, i + sub.length) (StrLaws.occBody s sub hi 1)).run.fst.toList = [i]
      rw [occ_kept s sub hi r _ _ (by simp)]; rfl
    · have e : (decide (i + sub.length ≤ hi) && Builtin.Str.subAt s sub i) = false := by
        cases h1 : (decide (i + sub.length ≤ hi) && Builtin.Str.subAt s sub i) with
        | false => rfl
        | true =>
          obtain ⟨a, b⟩ := Bool.and_eq_true_iff.mp h1
          exact absurd ⟨of_decide_eq_true a, b⟩ c
      rw [e]
      unfold StrLaws.occBody
      rw [if_neg (fun z => c ⟨z.1.2, z.2⟩)]
      exact first_occ s sub hi r free fun j hj => h j (List.mem_cons_of_mem _ hj)
def hasAt (l u : List Nat) (i : Nat) : Bool := decide (i + u.length ≤ l.length) && decide ((l.drop i).take u.length = u)
def findN (l u : List Nat) (b : Nat) : Int := match (List.range' b (l.length + 1 - b)).find? (hasAt l u) with | some k => (k : Int) | none => -1
section
variable {X : Cx}
def rCount : V → List V → Hp → VK → Prop := fun x xs H Q => ∃ (l : List Nat) (c : Nat), x = .str (tx l) ∧ xs = [.str (tx [c])] ∧ Q (.int ((l.count c : Nat) : Int)) H
theorem mt_count : MtR X "str.count" rCount := by
  intro pins s σ H x xs v us Q I rx rv h
  obtain ⟨l, c, rfl, rfl, q⟩ := h
  obtain ⟨t, rfl⟩ := rx
  obtain ⟨u, rfl, ru⟩ := rv.one
  obtain ⟨t', rfl⟩ := ru
  refine SC.count ⟨.int _, H, I.tok _, ⟨_, rfl⟩, ?_⟩
  show Q (.int (Txt.count (tx l) ⟨#[c]⟩)) H
  rw [count_is, show (tx l).cps.toList = l by simp [tx], countIn_count]; exact q
theorem subAt_tx (l u : List Nat) (i : Nat) : Builtin.Str.subAt (tx l) (tx u) i = decide ((l.drop i).take u.length = u) := by
  unfold Builtin.Str.subAt
  rw [tx_len]
  have e : ((tx l).cps.extract i (i + u.length) == (tx u).cps) = decide ((tx l).cps.extract i (i + u.length) = (tx u).cps) := by
    rw [Bool.eq_iff_iff]; simp
  rw [e]
  have e2 : (tx l).cps.extract i (i + u.length) = ((l.drop i).take u.length).toArray := by
    unfold tx
    rw [List.extract_toArray]
    congr 1
    rw [List.extract_eq_drop_take]
    congr 1
    omega
  rw [e2]
  congr 1
  rw [eq_iff_iff]
  constructor
  · intro h
    have := congrArg Array.toList h
    simpa [tx] using this
  · intro h
    rw [h]; rfl
theorem occ_tx (l u : List Nat) (b : Nat) : Builtin.Str.occurrences (tx l) (tx u) b (tx l).length 1 = match (List.range' b (l.length + 1 - b)).find? (hasAt l u) with | some k => [k] | none => [] := by
  rw [StrLaws.occ_eq, first_occ _ _ _ _ _ (fun i hi => (List.mem_range'_1.mp hi).1)]
  have e : (fun i => decide (i + (tx u).length ≤ (tx l).length) && Builtin.Str.subAt (tx l) (tx u) i) = hasAt l u := by
    funext i
    rw [subAt_tx, tx_len, tx_len]; rfl
  rw [e, tx_len]
theorem find_eq (l u : List Nat) (b : Nat) (hb : b ≤ l.length) : Txt.find3 (tx l) (tx u) (b : Int) = findN l u b := by
  unfold Txt.find3 findN
  have e : fromIndex (tx l).length (b : Int) = b := by unfold fromIndex; rw [if_neg (by omega)]; omega
  rw [e, occ_tx]
  cases (List.range' b (l.length + 1 - b)).find? (hasAt l u) <;> rfl
theorem find_eq0 (l u : List Nat) : Txt.find (tx l) (tx u) = findN l u 0 := by
  unfold Txt.find findN
  rw [occ_tx]
  cases (List.range' 0 (l.length + 1 - 0)).find? (hasAt l u) <;> rfl
def rFind : V → List V → Hp → VK → Prop := fun x xs H Q => ∃ l u : List Nat, x = .str (tx l) ∧ ((xs = [.str (tx u)] ∧ Q (.int (findN l u 0)) H) ∨ ∃ b : Nat, b ≤ l.length ∧ xs = [.str (tx u), .int (b : Int)] ∧ Q (.int (findN l u b)) H)
theorem mt_find : MtR X "str.find" rFind := by
  intro pins s σ H x xs v us Q I rx rv h
  obtain ⟨l, u, rfl, h⟩ := h
  obtain ⟨t, rfl⟩ := rx
  rcases h with ⟨rfl, q⟩ | ⟨b, hb, rfl, q⟩
  · obtain ⟨w, rfl, ru⟩ := rv.one
    obtain ⟨t', rfl⟩ := ru
    exact SC.find ⟨.int _, H, I.tok _, ⟨_, rfl⟩, by rw [find_eq0]; exact q⟩
  · obtain ⟨w, w', rfl, ru, ru'⟩ := vals2 rv
    obtain ⟨t', rfl⟩ := ru
    obtain ⟨t'', rfl⟩ := ru'
    exact SC.find3 ⟨.int _, H, I.tok _, ⟨_, rfl⟩, by rw [find_eq l u b hb]; exact q⟩
end
/-! ### objects -/
section
variable {K : PySem.W.Frag} {σ : St} {H : Hp} {Q : VK} {D : Ends} {te tv : TE} {ta : TA}
theorem r_fld {f : Str} (h : te σ H fun x H1 => ∃ a C dx fs v, x = .ref a ∧ H1 a = some (.ins C dx fs) ∧ Cls K C ∧ NoAttr K C f ∧ fs.lookup f = some v ∧ Q v H1) : tFld K te f σ H Q := h
theorem r_sfld {f : Str} (h : tv σ H fun y H1 => te σ H1 fun x H2 => ∃ a C dx fs, x = .ref a ∧ H2 a = some (.ins C dx fs) ∧ Cls K C ∧ NoAttr K C f ∧ fs.length < 1000 ∧ D.nx σ (upd H2 a (.ins C dx (putF f y fs)))) : sFld K te tv f D σ H := h
theorem r_meth {C : Addr} {m : Str} {sp : Sp} {dvs : List V} {E : XK} (h : te σ H fun x H1 => ∃ a dx fs, x = .ref a ∧ H1 a = some (.ins C dx fs) ∧ fs.lookup m = none ∧ ta σ H1 fun vs H2 => sp (x :: (vs ++ dvs)) H2 Q E) : tMeth C m sp dvs E te ta σ H Q := h
theorem r_make {C : Addr} {sp : Sp} {dvs : List V} {E : XK} (h : ta σ H fun vs H1 => ∀ x dx, H1 x = none → H1 dx = none → dx ≠ x → sp (.ref x :: (vs ++ dvs)) (upd (upd H1 dx (.own x)) x (.ins C dx [])) (fun v H2 => v = .non ∧ Q (.ref x) H2) E) : tMake C sp dvs E ta σ H Q := h
end
end L2

set_option Elab.async false
set_option linter.all false
set_option maxRecDepth 100000
set_option autoImplicit false
namespace L2
open PySem PySem.Spec PyProof.Rows

/-! ### try: o.m(..) as its only statement: the names are as they were when the exception comes -/
def LandS (X : Cx) (pins : List (Addr × Obj)) (σ : St) (H : Hp) (a : Addr) (cls : Value) (s : Shared) : Prop := ∃ (a0 : Value) (B : Heap), Heap.FlyingW B X.stack a cls a0 s.heap ∧ H a = none ∧ X.s₀.heap.get? a = none ∧ (∀ p ∈ X.pn ++ pins, p.1 ≠ a) ∧
  ∀ (h'' : Heap) (t : Nat), B.StaysIn h'' → s.heap.UpToSlots h'' → Inv X pins σ H { s with heap := h'', toks := t }
theorem LandS.on {X : Cx} {pins : List (Addr × Obj)} {σ : St} {H : Hp} {a : Addr} {cls : Value} {s : Shared} {a0 : Value} {B : Heap} (hn : H a = none) (h0 : X.s₀.heap.get? a = none) (hp : ∀ p ∈ X.pn ++ pins, p.1 ≠ a)
    (cl : ∀ (h'' : Heap) (t : Nat), B.StaysIn h'' → s.heap.UpToSlots h'' → Inv X pins σ H { s with heap := h'', toks := t }) {h1 : Heap} (f : Heap.FlyingW B X.stack a cls a0 h1) (u : s.heap.UpToSlots h1) : LandS X pins σ H a cls { s with heap := h1 } :=
  ⟨a0, B, f, hn, h0, hp, fun h'' t hB k => cl h'' t hB (u.trans k)⟩
abbrev THS := St → TH
def PHS (X : Cx) (hs : List ExceptHandler) (t : THS) : Prop := ∀ (pins : List (Addr × Obj)) (s : Shared) (σ : St) (H : Hp) (D : Ends) (a : Addr) (cls : Value), LandS X pins σ H a cls s → t σ cls a H D → wpAny (model X.prog X.w) X.A (handleBy (.ref a) X.env hs) (SP X pins D) X.xe s
def tHitS (K : PySem.W.Frag) (cs : List Value) (f : St → Addr → Ends → Hp → Prop) (tr : THS) : THS := fun σ cls a H D => ∃ b, PySem.W.exmAny K cls cs = some b ∧ if b = true then f σ a D.back (upd H a (xo a cls)) else tr σ cls a H D
section
variable {X : Cx} {tt : Expr} {cs : List Value} {b0 : Stmt} {suite : List Stmt} {pos : Pos} {rest : List ExceptHandler} {tr : THS} {ts : TS} {n : Str} {i : Nat}
theorem phs_nil : PHS X [] (fun _ _ _ _ _ => False) := fun _ _ _ _ _ _ _ _ h => h.elim
theorem phs_cons0 (hd : X.calm = true → X.A.handled = none) (ht : HT X tt cs) (hsu : ∀ a, PSs (X.xm a) (b0 :: suite) ts) (hr : PHS X rest tr) :
    PHS X (.ExceptHandler (some tt) none (b0 :: suite) pos :: rest) (tHitS X.K cs (fun σ _ D H => ts D σ H) tr) := by
  intro pins s σ H D a cls land h
  obtain ⟨b, hb, h⟩ := h
  obtain ⟨a0, B, f, hn, h0, hp, cl⟩ := land
  have I0 : Inv X pins σ H s := cl s.heap s.toks f.1 (Heap.UpToSlots.refl _)
  refine wpAny_handleBy_cons (codeAny_handlers_test (ht pins _ H s a cls b _ _ I0 (fly_ty f) hb fun h1 kp => ?_)) (by intro q; cases q)
  have f1 := PySem.W.flying_keeps f kp
  cases b with
  | false => exact hr pins _ σ H D a cls (LandS.on hn h0 hp cl f1 (Heap.UpToSlots.of_keeps kp)) h
  | true =>
    refine codeAny_handlers_suite (lands_againW f1 fun h2 f2 u2 => ?_)
    have I2 : Inv X pins σ H { s with heap := h2 } := cl h2 s.toks f2.1 ((Heap.UpToSlots.of_keeps kp).trans u2)
    have I3 := (I2.exc hn (fly_at f2) h0 hp).xm a
    refine wpAny_mono (hsu a pins _ _ _ _ I3 h) (fun fl s3 q => ?_) fun _ _ z => False.elim z
    cases fl with
    | ret u =>
      obtain ⟨v, σ', H', I', r, q⟩ := q
      exact ⟨v, σ', H', I'.unxm hd, r, q⟩
    | next => obtain ⟨_, _, _, q⟩ := q; exact q.elim
    | brk => obtain ⟨_, _, _, q⟩ := q; exact q.elim
    | cont => obtain ⟨_, _, _, q⟩ := q; exact q.elim
theorem phs_cons1 (hd : X.calm = true → X.A.handled = none) (hN : X.N.Nodup) (hi : X.N[i]? = some n) (hx : X.env.scope.names.lookup n = some .local) (ht : HT X tt cs) (hsu : ∀ a, PSs (X.xm a) (b0 :: suite) ts) (hr : PHS X rest tr) :
    PHS X (.ExceptHandler (some tt) (some n) (b0 :: suite) pos :: rest) (tHitS X.K cs (fun σ a D H => ts D (σ.set i (some (.ref a))) H) tr) := by
  intro pins s σ H D a cls land h
  obtain ⟨b, hb, h⟩ := h
  obtain ⟨a0, B, f, hn, h0, hp, cl⟩ := land
  have I0 : Inv X pins σ H s := cl s.heap s.toks f.1 (Heap.UpToSlots.refl _)
  refine wpAny_handleBy_cons (codeAny_handlers_test (ht pins _ H s a cls b _ _ I0 (fly_ty f) hb fun h1 kp => ?_)) (by intro q; cases q)
  have f1 := PySem.W.flying_keeps f kp
  cases b with
  | false => exact hr pins _ σ H D a cls (LandS.on hn h0 hp cl f1 (Heap.UpToSlots.of_keeps kp)) h
  | true =>
    refine codeAny_handlers_suite_as (lands_againW f1 fun h2 f2 u2 => ?_)
    have I2 : Inv X pins σ H { s with heap := h2 } := cl h2 s.toks f2.1 ((Heap.UpToSlots.of_keeps kp).trans u2)
    have I3 := (I2.exc hn (fly_at f2) h0 hp).xm a
    refine store_ok (X := X.xm a) I3 hN hi (.inl hx) (v := .ref a) rfl (fun s3 I4 => ?_) (.inr hx)
    refine wpAny_mono (hsu a pins _ _ _ _ I4 h) (fun fl s4 q => ?_) fun _ _ z => False.elim z
    cases fl with
    | ret u =>
      obtain ⟨v, σ', H', I', r, q⟩ := q
      have I5 : Inv X pins σ' H' s4 := I'.unxm hd
      obtain ⟨m, hm, _⟩ := id I5.loc
      refine wpAny_nameGoes hx hm (by rw [I5.ok.kind]; rfl) fun h5 m5 hm5 hs5 => ?_
      exact ⟨v, _, H', I5.gone hm5 hs5, r, q⟩
    | next => obtain ⟨_, _, _, q⟩ := q; exact q.elim
    | brk => obtain ⟨_, _, _, q⟩ := q; exact q.elim
    | cont => obtain ⟨_, _, _, q⟩ := q; exact q.elim
end
/-- an expression whose exception is told with the names as they were -/
def PEx (X : Cx) (e : Expr) (te : XK → TE) : Prop := ∀ (pins : List (Addr × Obj)) (s : Shared) (σ : St) (H : Hp) (Q : VK) (Ec : XK), Inv X pins σ H s → te Ec σ H Q →
  wpAny (model X.prog X.w) X.A (eval e X.env) (EP X pins σ Q) (fun x s1 => ∃ (a : Addr) (cls : Value) (H' : Hp), x = .ref a ∧ LandS X pins σ H' a cls s1 ∧ Ec cls none H') s
def tTry1 (te : XK → TE) (th : THS) : TS := fun D σ H => ∃ Ec : XK, te Ec σ H (fun _ H1 => D.nx σ H1) ∧ ∀ cls d H', Ec cls d H' → ∀ a, H' a = none → th σ cls a H' D
section
variable {X : Cx} {pos epos apos : Pos} {e o : Expr} {es : List Expr} {te : XK → TE} {ta : TE} {t : TA} {th : THS} {h0 : ExceptHandler} {hs : List ExceptHandler} {m : Str} {C f : Addr} {fd : FuncData} {ps : List Str} {sp : Sp} {k : Nat}
theorem ps_try1 (stk : X.stack = X.env :: X.outer) (fr : X.env.frame = some X.env.locals) (hb : PEx X e te) (hh : PHS X (h0 :: hs) th) (hsw : swapsWith e none epos.line X.env = pure false := by rfl) :
    PS X (.Try [.Expr e epos] (h0 :: hs) [] [] pos) (tTry1 te th) := by
  intro pins s σ H D I h
  obtain ⟨Ec, h, hc⟩ := h
  refine wpAny_Try_except (wpAny_mono (Q := fun fl s1 => SP X pins D fl s1) (E := fun x s1 => ∃ (a : Addr) (cls : Value) (H' : Hp), x = .ref a ∧ LandS X pins σ H' a cls s1 ∧ Ec cls none H') (wpAny_execs_cons (thn (wpAny_Expr_any (Q := fun fl s1 => SP X pins D fl s1) (thn (hb pins s σ H _ Ec I h) fun v s1 ⟨x, H1, I1, r1, q1⟩ => ⟨σ, H1, I1, q1⟩) I.quiet hsw) fun fl s1 q => ?_)) (fun fl s1 q => ?_) fun x s1 q => ?_)
  · cases fl with
    | next => exact wpAny_execs_nil q
    | ret v => exact q
    | brk => exact q
    | cont => exact q
  · cases fl with
    | next => exact wpAny_execs_nil q
    | brk => exact q
    | cont => exact q
    | ret u => exact q
  · obtain ⟨a, cls, H', rfl, ⟨a0, B, f, hn, h0', hp, cl⟩, hE⟩ := q
    have hfr : X.A.frames = some (X.env :: X.outer) := by rw [I.ok.frames, stk]
    have f' := f
    rw [stk] at f'
    refine wpAny_looks_onW hfr fr f' fun h2 f2 u2 => ?_
    refine wpAny_landsW f2 fun h3 f3 u3 => ?_
    rw [← stk] at f3
    exact hh pins _ σ H' D a cls (LandS.on hn h0' hp cl f3 (u2.trans u3)) (hc cls none H' hE a hn)
theorem r_try1 {D : Ends} {σ : St} {H : Hp} (Ec : XK) (h : te Ec σ H (fun _ H1 => D.nx σ H1)) (hc : ∀ cls d H', Ec cls d H' → ∀ a, H' a = none → th σ cls a H' D) : tTry1 te th D σ H := ⟨Ec, h, hc⟩
theorem pex_meth {pl : Sem Bool} (hex : X.ex = []) (he : PE X.nox o ta) (c : Cls X.K C) (hm : Meth X.K C m f) (F : FnOk X.prog X.w X.K X.mg X.base (CXf X.prog X.w) k f fd ps sp) (hr : Room k X.A) (hb : Binds X.K fd ps []) (ha : PA X.nox (e :: es) t)
    (hst : starEach (e :: es) X.env = (false, eval e X.env) :: starEach es X.env := by rfl) (hpl : (backTo pos (starEach es X.env)).any (·.1) = false := by rfl)
    (ht : eval (.Call (.Attribute o m apos) (e :: es) [] pos) X.env = (do
      let ov ← eval o X.env
      standAt apos.atName
      let (f, first) ← holding [ov] (getMethod ov m pl)
      callWith pos f first (backTo pos (starEach (e :: es) X.env)) (backToKw pos (keywordEach [] X.env))) := by rfl) :
    PEx X (.Call (.Attribute o m apos) (e :: es) [] pos) (fun Ec => tMeth C m sp [] Ec ta t) := by
  intro pins s σ H Q Ec I h
  refine PySem.W.methodCall_KW (pl := pl) (wpAny_mono (he pins s σ H _ (I.wish _) h) (fun u s1 q => ?_) fun _ _ z => False.elim z) ht
  obtain ⟨x, H1, I1, rx, a, dx, fs, ex, ea, l, q⟩ := q
  subst ex
  obtain rfl : u = Value.ref a := rx
  refine getmeth_ok I1.unwish ea c hm l ?_
  refine PySem.W.callWith_K (first := [.ref a]) (h₀ := X.base) I.ok.mod.kin hm.kp (wpAny_mono (ha pos pins s1 σ H1 _ I1 q) (fun us s2 q2 => ?_) fun _ _ z => False.elim z) hst hpl
  obtain ⟨vs, H2, I2, r, q2⟩ := q2
  have I2 := I2.unwish
  refine ⟨I2.kIn, ?_⟩
  rw [List.append_nil] at q2
  have r2 : Vals (.ref a :: vs) (.ref a :: us) := .cons rfl r
  have hl : (Value.ref a :: us ++ []).length = ps.length := by rw [List.append_nil, ← r2.length]; exact F.len _ _ _ _ q2
  have hbb := hb s2 (.ref a :: us) I2.kIn hl
  rw [List.append_nil] at hbb
  refine wpAny_call (codeAny_mono (F.run X.A X.stack s2 H2 ⟨.ref a :: us, []⟩ (.ref a :: us) (.ref a :: vs) Q Ec hr I2.env0 hbb r2 q2) fun rr s' hq => ?_)
  cases rr with
  | error ee =>
    obtain ⟨b, cls, a0, H', B, rfl, os, bare, hfl, hn, hnew, hcl, hE⟩ := hq
    have key : ∀ (h'' : Heap) (t : Nat), B.StaysIn h'' → s'.heap.UpToSlots h'' → Inv X pins σ H' { s' with heap := h'', toks := t } := fun h'' t hB kk => by
      obtain ⟨un, ok⟩ := hcl h'' hB kk
      exact I2.call' (ch := []) (s' := { s' with heap := h'', toks := t }) os un ok bare fun b hb => nomatch hb
    refine ⟨b, cls, H', rfl, ⟨a0, B, hfl, hn, ?_, fun p hp z => ?_, key⟩, hE⟩
    · cases qq : X.s₀.heap.get? b with
      | none => rfl
      | some oo =>
        obtain ⟨o', e'⟩ := I2.base.there b oo qq (by rw [hex]; simp)
        rw [hnew] at e'; cases e'
    · have e' := (I2.pin p hp).1
      rw [z, hnew] at e'; cases e'
  | ok fl =>
    cases fl with
    | ret u => exact I2.after hq
    | next => exact False.elim hq
    | brk => exact False.elim hq
    | cont => exact False.elim hq
end
/-! ### a call within an except suite, of a def that asks nothing of it -/
structure FnQ (P : Program) (w : World) (K : PySem.W.Frag) (mg : Str → Option Value) (base : Heap) (k : Nat) (f : Addr) (fd : FuncData) (ps : List Str) (sp : Sp) : Prop where
  len : ∀ vs H Q E, sp vs H Q E → vs.length = ps.length
  run : ∀ (A : Around) (ax : Addr) (outer : List Env) (s : Shared) (H : Hp) (args : Args) (us : List Value) (vs : List V) (Q : VK), Room k A → Env0 P w K mg base A outer s H → BindsTo s fd args (ps.zip us) → Vals vs us → sp vs H Q E0 →
    codeAny (model P w) (A.mark (some (.ref ax))) (.call (.ref f) args) (CR CX0 outer P w H s Q E0) s
theorem Fun.okq {P : Program} {w : World} {K : PySem.W.Frag} {mg : Str → Option Value} {base : Heap} {x qual : Str} {st : Stmt} {f : Addr} {fd : FuncData} {N ps : List Str} {k : Nat} {sp : Sp} (F : Fun K x qual st f fd) (S : FnScope N ps (defScope st)) (len : ∀ vs H Q E, sp vs H Q E → vs.length = ps.length)
    (hbody : ∀ (cdv : Value) (A : Around) (ax : Addr) (outer : List Env) (s : Shared) (H : Hp) (vs : List V) (Q : VK), sp vs H Q E0 →
      ∃ t, PSs ((cxOf CX0 P w K mg base N qual (defScope st) f cdv A outer s H E0).xm ax) (defBody st) t ∧ t { nx := fun _ H' => Q .non H', rt := Q } (start N vs) H) : FnQ P w K mg base (k + 1) f fd ps sp := by
  obtain ⟨oc, od, kV, doc, pm, an, cdv, ct, osl, rfl, lk, hcd⟩ := F.ex
  refine ⟨len, fun A ax outer s H args us vs Q hr e0 hb r hsp => ?_⟩
  have hl := len _ _ _ _ hsp
  have KX : K.In s.heap := e0.mod.kin.keeps fun b o e => (e0.bs b o e).1
  have lim : s.heap.NoLimit := e0.mod.nolimit.keeps fun b o e => (e0.bs b o e).1
  have hk : ∀ y ∈ ps.zip us, (defScope st).names.lookup y.1 = some .local ∨ ((defScope st).names.lookup y.1 = some .cell ∧ ((cellsFrom (s.heap.objs.size + 1) (defScope st).names []).lookup y.1).isSome = true) := by
    rintro ⟨n, v⟩ hy
    rcases S.par n (List.of_mem_zip hy).1 with q | q
    · exact .inl q
    · exact .inr ⟨q, PySem.W.cellsFrom_some _ _ _ (.inl q)⟩
  refine codeAny_call_function (A := A.mark (some (.ref ax))) (show A.depth < recursionLimit from hr.depth) (KX _ _ lk) rfl S.co S.gen rfl (PySem.W.codeRec_of KX hcd) (hb _ _ _ _ (wpAny_newFunctionEnv_cells S.kind hk fun env he s1 xx => ?_))
  subst he
  obtain ⟨t, ht, hq⟩ := hbody cdv A ax outer s H vs Q hsp
  have I := (inv_start (CX := CX0) (E := E0) S hr.hd e0 hl r xx).xm ax
  refine ⟨lim.keeps xx.toInCall.keep, codeAny_func (wpAny_mono (ht [] s1 (start N vs) H _ I hq) (fun fl s' hs => ?_) fun _ _ z => False.elim z)⟩
  cases fl with
  | ret u => obtain ⟨v, σ', H', J, rv, q⟩ := hs; exact ⟨v, H', J.os, J.bare, J.base, J.hok, rv, q⟩
  | next => obtain ⟨σ', H', J, q⟩ := hs; exact ⟨.non, H', J.os, J.bare, J.base, J.hok, rfl, q⟩
  | brk => obtain ⟨_, _, _, q⟩ := hs; exact False.elim q
  | cont => obtain ⟨_, _, _, q⟩ := hs; exact False.elim q
section
variable {X : Cx} {ax : Addr} {pos apos : Pos} {o : Expr} {ta : TE} {m : Str} {C f : Addr} {fd : FuncData} {ps : List Str} {sp : Sp} {k : Nat}
theorem pe_meth0Q {pl : Sem Bool} (he : PE (X.xm ax) o ta) (c : Cls X.K C) (hm : Meth X.K C m f) (F : FnQ X.prog X.w X.K X.mg X.base k f fd ps sp) (hr : Room k X.A) (hb : Binds X.K fd ps [])
    (ht : eval (.Call (.Attribute o m apos) [] [] pos) X.env = (do
      let ov ← eval o X.env
      standAt apos.atName
      let (f, first) ← holding [ov] (getMethod ov m pl)
      callWith pos f first (backTo pos (starEach [] X.env)) (backToKw pos (keywordEach [] X.env))) := by rfl) :
    PE (X.xm ax) (.Call (.Attribute o m apos) [] [] pos) (tMeth C m sp [] E0 ta tNil) := by
  intro pins s σ H Q I h
  refine PySem.W.methodCall_KW (pl := pl) (thn (he pins s σ H _ I h) fun u s1 q => ?_) ht
  obtain ⟨x, H1, I1, rx, a, dx, fs, ex, ea, l, q⟩ := q
  subst ex
  obtain rfl : u = Value.ref a := rx
  refine getmeth_ok I1 ea c hm l (PySem.W.callWith_K0 (first := [.ref a]) I1.kIn hm.kp ?_)
  have q' : sp [.ref a] H1 Q E0 := q
  have hl : ([Value.ref a] ++ []).length = ps.length := by have := F.len _ _ _ _ q'; simpa using this
  have hbb := hb s1 [.ref a] I1.kIn hl
  rw [List.append_nil] at hbb
  have e1 := I1.env0
  have e2 : Env0 X.prog X.w X.K X.mg X.base X.A X.stack s1 H1 := ⟨e1.frames, e1.mod, e1.bs, e1.bsz, e1.funs, e1.frf, e1.hok, e1.bare⟩
  refine wpAny_call (codeAny_mono (F.run X.A ax X.stack s1 H1 ⟨[.ref a], []⟩ [.ref a] [.ref a] Q hr e2 hbb (.cons rfl .nil) q') fun rr s' hq => ?_)
  cases rr with
  | error ee => exact False.elim hq
  | ok fl =>
    cases fl with
    | ret u => exact I1.after hq
    | next => exact False.elim hq
    | brk => exact False.elim hq
    | cont => exact False.elim hq
end
/-! ### except (A, B) -/
theorem ht_tup2 {X : Cx} {x1 x2 : Str} {p1 p2 tp : Pos} {c1 c2 : Value} {kk : Nat} (g1 : Gl X x1) (m1 : X.mg x1 = some c1) (g2 : Gl X x2) (m2 : X.mg x2 = some c2)
    (d1 : (x1 == ("__debug__" : Str)) = false := by decide) (d2 : (x2 == ("__debug__" : Str)) = false := by decide) : HT X (.Tuple [.Name x1 p1, .Name x2 p2] kk tp) [c1, c2] := by
  intro pins σ H s a cls b Q E I LT he q
  have J := I.xm a
  refine wpAny_Tuple (wpAny_items_cons (ld_glob (X := X.xm a) J g1 m1 (wpAny_items_cons (ld_glob (X := X.xm a) J g2 m2 (wpAny_items_nil ⟨(by show 2 ≤ sizeLine; decide), ?_⟩) d2)) d1))
  have kp : ∀ q o, s.heap.get? q = some o → (s.heap.push { cls := .type "tuple", data := .seq [c1, c2].toArray }).get? q = some o := fun _ _ z => Heap.get?_push_of_some _ z
  exact (PySem.W.exm_tup2 (I.kIn.keeps kp) (LT.keeps kp) (Heap.get?_push_size s.heap rfl) he).here (q _ kp)
/-! ### for x in range(a, b, -1) -/
def Itd (lo : Int) (n : Nat) : It := ⟨fun i _ => i < n, fun i H x H' => H' = H ∧ x = .int (lo - i), fun i _ => n ≤ i⟩
theorem turn_down {P : Program} {w : World} {K : PySem.W.Frag} {tg : Expr} (it : Addr) (lo : Int) (n : Nat) : Turn P w K tg (Itd lo n) [it] it (fun i h => IsRangeIter h it (lo + (i : Nat) * (-1)) ((n : Int) - (i : Nat)) (-1)) where
  mem := by simp
  obj := fun i h st b hb => by
    have e : b = it := by simpa using hb
    subst e
    exact ⟨_, st, fun v z => nomatch (show Data.fields _ = Data.cell v from z)⟩
  keep := fun i h h' st k => k it (by simp) _ st
  item := by
    intro X hP hw hK hc i pins s σ H E I hf st hg
    subst hP hw hK
    obtain ⟨f0, f1, f2, f3, f4, f5⟩ := hf it (by simp)
    refine (Walks.range (prog := X.prog) (w := X.w) (I.ok.hd hc) it lo (-1) n).item i s _ _ hg st fun v h' tk hv st' kk => ?_
    obtain ⟨t, rfl⟩ := hv
    have I1 : Inv X pins σ H { s with heap := h', toks := tk } := I.turned (fun b o hb e => kk b o (by simpa using hb) e) f0 f1 f3 f4 f5
    refine ⟨_, rfl, go_of (s := { s with heap := h', toks := tk }) (n := "range_iterator") st' rfl rfl (by decide) ⟨.int (lo - i), H, I1, ⟨t, ?_⟩, ⟨rfl, rfl⟩, st', fun b hb => (hf b hb).1⟩⟩
    rw [show lo + (i : Int) * (-1) = lo - i by omega]
  done := by
    intro X hP hw hK hc i pins s σ H E I hf st hg
    subst hP hw hK
    obtain ⟨f0, f1, f2, f3, f4, f5⟩ := hf it (by simp)
    have hg' : n ≤ i := hg
    exact wpAny_pyNext_range_end (I.ok.hd hc) st (by omega) fun h' eb => ⟨rfl, I.turned (t' := s.toks) (fun b o hb e => eb b o hb e) f0 f1 f3 f4 f5⟩
  self := fun _ _ _ _ _ st h => wpAny_pyIter_rangeiter st h
section
variable {X : Cx} {tg : Expr}
def iRngD (ta : TA) : TI := fun σ H R => ta σ H fun vs H1 => ∃ i j : Int, vs = [.int i, .int j, .int (-1)] ∧ (-(2 ^ 60) ≤ i ∧ i < 2 ^ 60 ∧ -(2 ^ 60) ≤ j ∧ j < 2 ^ 60) ∧ R (Itd i (i - j).toNat) H1
theorem size_down (a b : Int) : Builtin.Range.rangeSize a b (-1) = ((a - b).toNat : Int) := by
  unfold Builtin.Range.rangeSize
  rw [if_neg (by decide)]
  split
  · rw [Int.neg_neg, Int.ediv_one]; omega
  · omega
theorem small_down {a b : Int} (h1 : -(2 ^ 60) ≤ a) (h2 : a < 2 ^ 60) (h3 : -(2 ^ 60) ≤ b) (h4 : b < 2 ^ 60) : Builtin.Range.small a b (-1) = true := by
  unfold Builtin.Range.small
  rw [size_down]
  simp only [Builtin.Range.rangeFitsLong, Bool.and_eq_true, Bool.or_eq_true, decide_eq_true_eq, beq_iff_eq, show ¬ ((-1 : Int) > 0) by decide, if_false]
  omega
theorem pi_rangeD {a b c : Expr} {ta : TA} {p pos : Pos} (hg : Gl X "range") (hm : X.mg "range" = none) (ha : PA X [a, b, c] ta) (hs : starEach [a, b, c] X.env = (false, eval a X.env) :: starEach [b, c] X.env := by rfl) (hp : (backTo pos (starEach [b, c] X.env)).any (·.1) = false := by rfl) :
    PI X tg (.Call (.Name "range" p) [a, b, c] [] pos) (iRngD ta) := by
  intro pins s σ H R I h
  refine Call_ (ld_blt I hg hm boot_range (PyProof.Rows.callWith_type1 (thn (ha pos pins s σ H _ I h) fun us s1 ⟨vs, H1, I1, r1, q1⟩ => ?_) hs hp))
  obtain ⟨i, j, e, ⟨q1, q2, q3, q4⟩, q⟩ := q1
  subst e
  cases r1 with
  | cons r rr => cases rr with
    | cons r' rr => cases rr with
      | cons r'' rr =>
        cases rr
        obtain ⟨t, rfl⟩ := r
        obtain ⟨t', rfl⟩ := r'
        obtain ⟨t'', rfl⟩ := r''
        refine call_range_3 (by decide) ?_ (.inl (PyProof.noPylong_small (by omega)))
        have I2 : Inv X pins σ H1 { s1 with heap := s1.heap.push { cls := .type "range", data := .fields #[.int i t, .int j t', .int (-1) t''] } } := I1.kept (t' := s1.toks) fun b o e => Heap.get?_push_of_some _ e
        refine wpAny_pyIter_range (s := { s1 with heap := s1.heap.push { cls := .type "range", data := .fields #[.int i t, .int j t', .int (-1) t''] } }) (IsRange.new ..) (small_down q1 q2 q3 q4) ?_
        refine ⟨_, [_], _, _, H1, rfl, I2.kept (t' := s1.toks) fun b o e => Heap.get?_push_of_some _ e, turn_down _ i (i - j).toNat, ?_, fun b hb => ?_, q⟩
        · show IsRangeIter _ _ (i + ((0 : Nat) : Int) * (-1)) ((((i - j).toNat : Nat) : Int) - ((0 : Nat) : Int)) (-1)
          rw [show i + ((0 : Nat) : Int) * (-1) = i by omega, show (((i - j).toNat : Nat) : Int) - ((0 : Nat) : Int) = Builtin.Range.rangeSize i j (-1) by rw [size_down]; omega]
          exact Heap.get?_push_size _ rfl
        · have e : b = _ := List.mem_singleton.mp hb
          rw [e]
          exact I2.fpOk (Nat.le_refl _) (I2.hok.fresh (Nat.le_refl _))
theorem r_rngD {ta : TA} {σ : St} {H : Hp} {R : It → Hp → Prop} (h : ta σ H fun vs H1 => ∃ i j : Int, vs = [.int i, .int j, .int (-1)] ∧ (-(2 ^ 60) ≤ i ∧ i < 2 ^ 60 ∧ -(2 ^ 60) ≤ j ∧ j < 2 ^ 60) ∧ R (Itd i (i - j).toNat) H1) : iRngD ta σ H R := h
end
theorem for_down {lo : Int} {n : Nat} {g : TG} {tb : TS} {D : Ends} {σ : St} {H : Hp} (Pv : Nat → St → Hp → Prop) (h0 : Pv 0 σ H)
    (hs : ∀ i σ H, i < n → Pv i σ H → g (.int (lo - i)) σ H fun σ2 H2 => tb { D with nx := Pv (i + 1), ct := Pv (i + 1), bk := D.nx } σ2 H2) (hd : ∀ σ H, Pv n σ H → D.nx σ H) :
    ∃ W : Nat → Nat → St → Hp → Prop, (∃ m, W 0 m σ H) ∧ ∀ i m σ H, W i m σ H →
      ((Itd lo n).stop i H ∧ D.nx σ H) ∨ ((Itd lo n).go i H ∧ ∃ N : St → Hp → Prop, (∀ σ' H', N σ' H' → ∃ m', m' < m ∧ W (i + 1) m' σ' H') ∧ ∀ x H', (Itd lo n).yld i H x H' → g x σ H' fun σ2 H2 => tb { D with nx := N, ct := N, bk := D.nx } σ2 H2) := by
  refine ⟨fun i m σ H => m = n - i ∧ i ≤ n ∧ Pv i σ H, ⟨n, by simp, Nat.zero_le _, h0⟩, ?_⟩
  rintro i m σ H ⟨rfl, hi, p⟩
  by_cases hlt : i < n
  · refine .inr ⟨hlt, Pv (i + 1), fun σ' H' p' => ⟨n - (i + 1), by omega, rfl, hlt, p'⟩, fun x H' y => ?_⟩
    obtain ⟨e, rfl⟩ := y
    subst e
    exact hs i σ _ hlt p
  · have e : i = n := by omega
    subst e
    exact .inl ⟨Nat.le_refl _, hd σ H p⟩
/-! ### a comprehension over a list, with a test -/
def oneT (n i : Nat) (g : TG) (tt : TT) (te : TE) (D : Addr) (Pv : Nat → St → List V → Hp → Prop) (x : V) (σ : St) (ys : List V) (H : Hp) : Prop :=
  g x σ H fun σ2 H3 => tt σ2 H3 fun ok H4 => if ok = true then te σ2 H4 fun v H5 => H5 D = some (.lst ys) ∧ ∃ m', m' < n - i ∧ m' = n - (i + 1) ∧ i + 1 ≤ n ∧ Pv (i + 1) σ2 (ys ++ [v]) (upd H5 D (.lst (ys ++ [v])))
    else ∃ m', m' < n - i ∧ m' = n - (i + 1) ∧ i + 1 ≤ n ∧ Pv (i + 1) σ2 ys H4
theorem comp_listT {K : PySem.W.Frag} {a : Addr} {xs : List V} {g : TG} {tt : TT} {te : TE} {D : Addr} {σ : St} {H1 : Hp} {F : Hp → Prop} (Pv : Nat → St → List V → Hp → Prop) (h0 : Pv 0 σ [] (upd H1 D (.lst []))) (hD : ∀ i σ ys H, i ≤ xs.length → Pv i σ ys H → (H D = some (.lst ys) ∧ ys.length < sizeLine) ∧ SqL K H a xs)
    (hs : ∀ i x σ ys H, xs[i]? = some x → Pv i σ ys H → oneT xs.length i g tt te D Pv x σ ys H) (hd : ∀ σ ys H, Pv xs.length σ ys H → F H) : compW (Itl K a) g tt te D σ H1 F := by
  refine ⟨fun i m σ ys H => m = xs.length - i ∧ i ≤ xs.length ∧ Pv i σ ys H, ⟨xs.length, rfl, Nat.zero_le _, h0⟩, ?_⟩
  rintro i m σ ys H ⟨rfl, hi, p⟩
  obtain ⟨q1, q2⟩ := hD i σ ys H hi p
  refine ⟨q1.1, q1.2, ?_⟩
  by_cases c : i < xs.length
  · refine .inr ⟨⟨xs, xs[i], q2, by simp [c]⟩, ?_⟩
    rintro x H2 ⟨rfl, y⟩
    exact hs i x σ ys _ (y xs q2) p
  · have e : i = xs.length := by omega
    subst e
    exact .inl ⟨⟨xs, q2, Nat.le_refl _⟩, hd σ ys H p⟩
theorem r_oneT {n i j : Nat} {tt : TT} {te : TE} {D : Addr} {Pv : Nat → St → List V → Hp → Prop} {x : V} {σ : St} {ys : List V} {H : Hp} (h : tt (σ.set j (some x)) H fun ok H4 => if ok = true then te (σ.set j (some x)) H4 fun v H5 => H5 D = some (.lst ys) ∧ ∃ m', m' < n - i ∧ m' = n - (i + 1) ∧ i + 1 ≤ n ∧ Pv (i + 1) (σ.set j (some x)) (ys ++ [v]) (upd H5 D (.lst (ys ++ [v])))
    else ∃ m', m' < n - i ∧ m' = n - (i + 1) ∧ i + 1 ≤ n ∧ Pv (i + 1) (σ.set j (some x)) ys H4) : oneT n i (gName j) tt te D Pv x σ ys H := r_gname h
end L2

set_option linter.all false
namespace Sh
/-- the weight, with the worths of the lowest two steps as seeds -/
def wtF (a b : Int) : List Int → Int
  | [] => 0
  | c :: t => c * a + wtF b (a + b) t
def Fb : Nat → Int
  | 0 => 1
  | 1 => 2
  | n + 2 => Fb n + Fb (n + 1)
/-- the worths from seeds -/
def fbF (a b : Int) : Nat → Int
  | 0 => a
  | n + 1 => fbF b (a + b) n
theorem fbF_two (a b : Int) : ∀ n, fbF a b (n + 2) = fbF a b n + fbF a b (n + 1)
  | 0 => by simp [fbF]
  | n + 1 => by
    show fbF b (a + b) (n + 2) = fbF b (a + b) n + fbF b (a + b) (n + 1)
    exact fbF_two b (a + b) n
theorem fbF_Fb : ∀ n, fbF 1 2 n = Fb n
  | 0 => rfl
  | 1 => rfl
  | n + 2 => by rw [fbF_two, fbF_Fb n, fbF_Fb (n + 1)]; rfl
theorem Fb_two (n : Nat) : Fb (n + 2) = Fb n + Fb (n + 1) := rfl
theorem Fb_pos : ∀ n, 0 < Fb n
  | 0 => by decide
  | 1 => by decide
  | n + 2 => by rw [Fb_two]; have := Fb_pos n; have := Fb_pos (n + 1); omega
theorem Fb_lt : ∀ n, Fb n < Fb (n + 1)
  | 0 => by decide
  | n + 1 => by rw [Fb_two]; have := Fb_pos n; omega
theorem Fb_mono {m n : Nat} (h : m ≤ n) : Fb m ≤ Fb n := by
  induction n with
  | zero => have : m = 0 := by omega
            subst this; exact Int.le_refl _
  | succ k ih =>
    by_cases e : m = k + 1
    · subst e; exact Int.le_refl _
    · have := ih (by omega); have := Fb_lt k; omega
theorem Fb_ge (n : Nat) : (n : Int) + 1 ≤ Fb n := by
  induction n with
  | zero => decide
  | succ k ih => have := Fb_lt k; omega
theorem wtF_append (a b : Int) : ∀ (l m : List Int), wtF a b (l ++ m) = wtF a b l + wtF (fbF a b l.length) (fbF a b (l.length + 1)) m
  | [], m => by simp [wtF, fbF]
  | c :: t, m => by
    show c * a + wtF b (a + b) (t ++ m) = c * a + wtF b (a + b) t + _
    rw [wtF_append b (a + b) t m, Int.add_assoc]; rfl
def wt (l : List Int) : Int := wtF 1 2 l
theorem wt_nil : wt [] = 0 := rfl
theorem wt_snoc (l : List Int) (c : Int) : wt (l ++ [c]) = wt l + c * Fb l.length := by
  unfold wt
  rw [wtF_append, fbF_Fb]
  simp [wtF]
/-- still, with b beneath -/
def stl (b : Int) : List Int → Prop
  | [] => True
  | c :: t => 0 ≤ c ∧ c ≤ 1 ∧ c + b ≤ 1 ∧ stl c t
def lst (b : Int) : List Int → Int
  | [] => b
  | c :: t => lst c t
theorem lst_snoc : ∀ (b : Int) (l : List Int) (c : Int), lst b (l ++ [c]) = c
  | _, [], _ => rfl
  | _, _ :: t, c => lst_snoc _ t c
theorem stl_snoc : ∀ (b : Int) (l : List Int) (c : Int), stl b (l ++ [c]) ↔ stl b l ∧ 0 ≤ c ∧ c ≤ 1 ∧ c + lst b l ≤ 1
  | b, [], c => by simp [stl, lst]
  | b, d :: t, c => by
    show (0 ≤ d ∧ d ≤ 1 ∧ d + b ≤ 1 ∧ stl d (t ++ [c])) ↔ (0 ≤ d ∧ d ≤ 1 ∧ d + b ≤ 1 ∧ stl d t) ∧ 0 ≤ c ∧ c ≤ 1 ∧ c + lst d t ≤ 1
    rw [stl_snoc d t c]
    constructor
    · rintro ⟨h1, h2, h3, h4, h5⟩; exact ⟨⟨h1, h2, h3, h4⟩, h5⟩
    · rintro ⟨⟨h1, h2, h3, h4⟩, h5⟩; exact ⟨h1, h2, h3, h4, h5⟩
theorem snoc_cases (l : List Int) : l = [] ∨ ∃ m c, l = m ++ [c] := by
  rcases List.eq_nil_or_concat l with h | ⟨m, c, h⟩
  · exact .inl h
  · exact .inr ⟨m, c, by simpa using h⟩
theorem stl_lt : ∀ (n : Nat) (l : List Int), l.length = n → stl 0 l → 0 ≤ wt l ∧ wt l < Fb n := by
  intro n
  induction n using Nat.strongRecOn with
  | ind n ih =>
    intro l hl hs
    rcases snoc_cases l with rfl | ⟨m, c, rfl⟩
    · subst hl; decide
    rw [stl_snoc] at hs
    obtain ⟨h1, h2, h3, h4⟩ := hs
    rw [wt_snoc]
    have hn : n = m.length + 1 := by rw [← hl]; simp
    subst hn
    have hm := ih m.length (by omega) m rfl h1
    have hF := Fb_lt m.length
    have hc : c = 0 ∨ c = 1 := by omega
    rcases hc with rfl | rfl
    · rw [Int.zero_mul]; omega
    · rw [Int.one_mul]
      rcases snoc_cases m with rfl | ⟨k, d, rfl⟩
      · decide
      · rw [lst_snoc] at h4
        rw [stl_snoc] at h1
        have hd : d = 0 := by omega
        subst hd
        have hk := ih k.length (by simp; omega) k rfl h1.1
        rw [wt_snoc, Int.zero_mul] at *
        have e : (k ++ [(0:Int)]).length = k.length + 1 := by simp
        simp only [e] at *
        have h2' : Fb (k.length + 1 + 1) = Fb k.length + Fb (k.length + 1) := rfl
        have := Fb_pos (k.length + 1)
        omega
theorem stl_same : ∀ (n : Nat) (l m : List Int), l.length = n → m.length = n → stl 0 l → stl 0 m → wt l = wt m → l = m := by
  intro n
  induction n with
  | zero =>
    intro l m hl hm _ _ _
    rw [List.length_eq_zero_iff.mp hl, List.length_eq_zero_iff.mp hm]
  | succ k ih =>
    intro l m hl hm sl sm hw
    rcases snoc_cases l with rfl | ⟨l', c, rfl⟩
    · simp at hl
    rcases snoc_cases m with rfl | ⟨m', d, rfl⟩
    · simp at hm
    have e1 : l'.length = k := by simpa using hl
    have e2 : m'.length = k := by simpa using hm
    rw [stl_snoc] at sl sm
    rw [wt_snoc, wt_snoc, e1, e2] at hw
    have b1 := stl_lt k l' e1 sl.1
    have b2 := stl_lt k m' e2 sm.1
    have hc : c = 0 ∨ c = 1 := by omega
    have hd : d = 0 ∨ d = 1 := by omega
    have : c = d ∧ wt l' = wt m' := by
      rcases hc with rfl | rfl <;> rcases hd with rfl | rfl <;> simp at hw ⊢ <;> omega
    rw [this.1, ih l' m' e1 e2 sl.1 sm.1 this.2]
/-- a still heap: its last count is 1 -/
def Still (l : List Int) : Prop := stl 0 l ∧ (l = [] ∨ lst 0 l = 1)
theorem still_low {l : List Int} (h : Still l) (n : l ≠ []) : Fb (l.length - 1) ≤ wt l := by
  rcases snoc_cases l with rfl | ⟨m, c, rfl⟩
  · exact absurd rfl n
  · rw [wt_snoc]
    have h2 := h.2
    rw [lst_snoc] at h2
    have hc : c = 1 := by
      rcases h2 with h2 | h2
      · simp at h2
      · exact h2
    subst hc
    have := (stl_lt m.length m rfl ((stl_snoc _ _ _).mp h.1).1).1
    simp; omega
theorem still_one {l m : List Int} (hl : Still l) (hm : Still m) (hw : wt l = wt m) : l = m := by
  have b1 := stl_lt _ l rfl hl.1
  have b2 := stl_lt _ m rfl hm.1
  by_cases e : l = []
  · subst e
    by_cases e2 : m = []
    · exact e2.symm
    · have := still_low hm e2; have := Fb_pos (m.length - 1); rw [wt_nil] at *; omega
  · by_cases e2 : m = []
    · subst e2; have := still_low hl e; have := Fb_pos (l.length - 1); rw [wt_nil] at *; omega
    · have c1 := still_low hl e
      have c2 := still_low hm e2
      have p1 : 0 < l.length := List.length_pos_iff.mpr e
      have p2 : 0 < m.length := List.length_pos_iff.mpr e2
      have : l.length = m.length := by
        rcases Nat.lt_trichotomy l.length m.length with h | h | h
        · have := Fb_mono (m := l.length) (n := m.length - 1) (by omega); omega
        · exact h
        · have := Fb_mono (m := m.length) (n := l.length - 1) (by omega); omega
      exact stl_same _ l m rfl this.symm hl.1 hm.1 hw
/-- the greedy list of m steps -/
def zk : Nat → Int → List Int
  | 0, _ => []
  | m + 1, n => if Fb m ≤ n then zk m (n - Fb m) ++ [1] else zk m n ++ [0]
theorem zk_length : ∀ m n, (zk m n).length = m
  | 0, _ => rfl
  | m + 1, n => by unfold zk; split <;> simp [zk_length m]
theorem zk_ok : ∀ (m : Nat) (n : Int), 0 ≤ n → n < Fb m → stl 0 (zk m n) ∧ wt (zk m n) = n := by
  intro m
  induction m with
  | zero => intro n h1 h2; have : Fb 0 = 1 := rfl; refine ⟨trivial, ?_⟩; show (0 : Int) = n; omega
  | succ k ih =>
    intro n h1 h2
    unfold zk
    split
    · rename_i hle
      have hlt : n - Fb k < Fb k := by
        cases k with
        | zero => have : Fb (0 + 1) = 2 := rfl; have : Fb 0 = 1 := rfl; omega
        | succ j => have : Fb (j + 1 + 1) = Fb j + Fb (j + 1) := rfl; have := Fb_lt j; omega
      have := ih (n - Fb k) (by omega) hlt
      refine ⟨?_, ?_⟩
      · rw [stl_snoc]
        refine ⟨this.1, by omega, by omega, ?_⟩
        cases k with
        | zero => show 1 + (0 : Int) ≤ 1; omega
        | succ j =>
          have : ¬ Fb j ≤ n - Fb (j + 1) := by have : Fb (j + 1 + 1) = Fb j + Fb (j + 1) := rfl; omega
          unfold zk
          rw [if_neg this, lst_snoc]; omega
      · rw [wt_snoc, this.2, zk_length]; omega
    · rename_i hle
      have := ih n h1 (by omega)
      refine ⟨?_, ?_⟩
      · rw [stl_snoc]
        have hb : lst 0 (zk k n) ≤ 1 := by
          rcases snoc_cases (zk k n) with e | ⟨q, c, e⟩
          · rw [e]; decide
          · rw [e, lst_snoc]; rw [e, stl_snoc] at this; omega
        exact ⟨this.1, by omega, by omega, by omega⟩
      · rw [wt_snoc, this.2]; omega
theorem zk_still {m : Nat} {n : Int} (h1 : Fb m ≤ n) (h2 : n < Fb (m + 1)) : Still (zk (m + 1) n) := by
  have := zk_ok (m + 1) n (by have := Fb_pos m; omega) h2
  refine ⟨this.1, .inr ?_⟩
  unfold zk
  rw [if_pos h1, lst_snoc]
/-- the number of steps: the first whose worth is more -/
theorem steps_of (n : Int) (h : 0 ≤ n) : ∃ m : Nat, n < Fb m ∧ (m = 0 ∨ Fb (m - 1) ≤ n) := by
  have ex : ∃ m : Nat, n < Fb m := ⟨n.toNat, by have := Fb_ge n.toNat; omega⟩
  have : ∀ m : Nat, n < Fb m → ∃ m : Nat, n < Fb m ∧ (m = 0 ∨ Fb (m - 1) ≤ n) := by
    intro m
    induction m with
    | zero => intro h; exact ⟨0, h, .inl rfl⟩
    | succ k ih =>
      intro h
      by_cases e : n < Fb k
      · exact ih e
      · exact ⟨k + 1, h, .inr (by simp; omega)⟩
  obtain ⟨m, hm⟩ := ex
  exact this m hm
theorem zk_row {m : Nat} {n : Int} (h0 : 0 ≤ n) (h1 : n < Fb m) (h2 : m = 0 ∨ Fb (m - 1) ≤ n) : Still (zk m n) ∧ wt (zk m n) = n := by
  refine ⟨?_, (zk_ok m n h0 h1).2⟩
  cases m with
  | zero => exact ⟨trivial, .inl rfl⟩
  | succ k =>
    rcases h2 with h2 | h2
    · exact absurd h2 (by omega)
    · exact zk_still (by simpa using h2) h1
end Sh

set_option linter.all false
namespace Sh
/-- a sum over the steps, each count by f of its step -/
def sumW (f : Nat → Int) : List Int → Int
  | [] => 0
  | c :: t => f 0 * c + sumW (fun k => f (k + 1)) t
theorem sumW_set : ∀ (f : Nat → Int) (l : List Int) (k : Nat) (v : Int), k < l.length → sumW f (l.set k v) = sumW f l + f k * (v - l.getD k 0)
  | _, [], k, _, h => by simp at h
  | f, c :: t, 0, v, _ => by
    show f 0 * v + _ = f 0 * c + _ + f 0 * (v - c)
    rw [Int.mul_sub]; omega
  | f, c :: t, k + 1, v, h => by
    show f 0 * c + sumW _ (t.set k v) = f 0 * c + sumW _ t + f (k + 1) * (v - t.getD k 0)
    rw [sumW_set _ t k v (by simpa using h)]; omega
theorem sumW_append : ∀ (f : Nat → Int) (l m : List Int), sumW f (l ++ m) = sumW f l + sumW (fun k => f (k + l.length)) m
  | f, [], m => by simp [sumW]
  | f, c :: t, m => by
    show f 0 * c + sumW _ (t ++ m) = f 0 * c + sumW _ t + _
    rw [sumW_append _ t m]
    have : (fun k => f (k + t.length + 1)) = fun k => f (k + (c :: t).length) := by funext k; simp [Nat.add_assoc]
    rw [this]; omega
def bare (l : List Int) : List Int := (l.reverse.dropWhile (· == 0)).reverse
theorem bare_snoc (l : List Int) (c : Int) : bare (l ++ [c]) = if c = 0 then bare l else l ++ [c] := by
  unfold bare
  rw [List.reverse_append, List.reverse_singleton, List.singleton_append, List.dropWhile_cons]
  by_cases h : c = 0
  · rw [if_pos h, if_pos (by simp [h])]
  · rw [if_neg h, if_neg (by simp [h])]; simp
theorem bare_nil : bare [] = [] := rfl
theorem bare_mem (l : List Int) : ∀ x ∈ bare l, x ∈ l := fun x hx => by
  unfold bare at hx
  rw [List.mem_reverse] at hx
  exact List.mem_reverse.mp ((List.dropWhile_sublist _).subset hx)
theorem bare_len (l : List Int) : (bare l).length ≤ l.length := by
  unfold bare
  rw [List.length_reverse]
  have := (List.dropWhile_sublist (fun x : Int => x == 0) (l := l.reverse)).length_le
  rw [List.length_reverse] at this; exact this
/-- a list is its bare part and noughts -/
theorem bare_split : ∀ (n : Nat) (l : List Int), l.length = n → ∃ k, l = bare l ++ List.replicate k 0 := by
  intro n
  induction n with
  | zero => intro l hl; rw [List.length_eq_zero_iff.mp hl]; exact ⟨0, rfl⟩
  | succ n ih =>
    intro l hl
    rcases snoc_cases l with rfl | ⟨m, c, rfl⟩
    · simp at hl
    · rw [bare_snoc]
      by_cases h : c = 0
      · rw [if_pos h]
        obtain ⟨k, e⟩ := ih m (by simpa using hl)
        refine ⟨k + 1, ?_⟩
        conv => { lhs; rw [e, h] }
        rw [List.append_assoc, List.replicate_succ']
      · rw [if_neg h]; exact ⟨0, by simp⟩
theorem sumW_zeros : ∀ (f : Nat → Int) (k : Nat), sumW f (List.replicate k 0) = 0
  | _, 0 => rfl
  | f, k + 1 => by rw [List.replicate_succ]; show f 0 * 0 + sumW _ _ = 0; rw [sumW_zeros]; omega
theorem sumW_bare (f : Nat → Int) (l : List Int) : sumW f (bare l) = sumW f l := by
  obtain ⟨k, e⟩ := bare_split _ l rfl
  conv => { rhs; rw [e] }
  rw [sumW_append, sumW_zeros]; omega
theorem bare_last (l : List Int) : bare l = [] ∨ ∃ m c, bare l = m ++ [c] ∧ c ≠ 0 := by
  have : ∀ (n : Nat) (l : List Int), l.length = n → (bare l = [] ∨ ∃ m c, bare l = m ++ [c] ∧ c ≠ 0) := by
    intro n
    induction n with
    | zero => intro l hl; rw [List.length_eq_zero_iff.mp hl]; exact .inl rfl
    | succ n ih =>
      intro l hl
      rcases snoc_cases l with rfl | ⟨m, c, rfl⟩
      · simp at hl
      · rw [bare_snoc]
        by_cases h : c = 0
        · rw [if_pos h]; exact ih m (by simpa using hl)
        · rw [if_neg h]; exact .inr ⟨m, c, rfl, h⟩
  exact this _ l rfl
theorem bare_bare (l : List Int) : bare (bare l) = bare l := by
  rcases bare_last l with e | ⟨m, c, e, h⟩
  · rw [e]; rfl
  · rw [e, bare_snoc, if_neg h]
/-- the weight is such a sum -/
theorem wtF_sum : ∀ (a b : Int) (l : List Int), wtF a b l = sumW (fbF a b) l
  | _, _, [] => rfl
  | a, b, c :: t => by
    show c * a + wtF b (a + b) t = a * c + sumW (fun k => fbF a b (k + 1)) t
    rw [wtF_sum b (a + b) t, Int.mul_comm]; rfl
theorem wt_sum (l : List Int) : wt l = sumW Fb l := by
  unfold wt; rw [wtF_sum]
  have : fbF 1 2 = Fb := funext fbF_Fb
  rw [this]
theorem sum_sum : ∀ l : List Int, l.sum = sumW (fun _ => 1) l
  | [] => rfl
  | c :: t => by rw [List.sum_cons, sum_sum t]; show c + sumW (fun _ => 1) t = 1 * c + sumW (fun _ => 1) t; omega
theorem sumW_nonneg : ∀ (f : Nat → Int) (l : List Int), (∀ k, 0 ≤ f k) → (∀ x ∈ l, 0 ≤ x) → 0 ≤ sumW f l
  | _, [], _, _ => Int.le_refl _
  | f, c :: t, hf, hl => by
    have h1 := sumW_nonneg (fun k => f (k + 1)) t (fun k => hf _) fun x hx => hl x (List.mem_cons_of_mem _ hx)
    have h2 : 0 ≤ f 0 * c := Int.mul_nonneg (hf 0) (hl c List.mem_cons_self)
    show 0 ≤ f 0 * c + _; omega
/-! ### moves: (true, k) a join, (false, k) a part -/
def fitsL (h : List Int) (j : Bool) (k : Nat) : Bool := if j then decide (k + 1 < h.length ∧ h.getD k 0 > 0 ∧ h.getD (k + 1) 0 > 0) else decide (k < h.length ∧ h.getD k 0 > 1)
def addAt (l : List Int) (k : Nat) (v : Int) : List Int := l.set k (l.getD k 0 + v)
theorem addAt_len (l : List Int) (k : Nat) (v : Int) : (addAt l k v).length = l.length := by unfold addAt; rw [List.length_set]
theorem addAt_sum (f : Nat → Int) (l : List Int) (k : Nat) (v : Int) (h : k < l.length) : sumW f (addAt l k v) = sumW f l + f k * v := by
  unfold addAt; rw [sumW_set f l k _ h]
  have : l.getD k 0 + v - l.getD k 0 = v := by omega
  rw [this]
def doneU (h : List Int) (j : Bool) (k : Nat) : List Int :=
  if j then addAt (addAt (addAt (h ++ [0, 0]) k (-1)) (k + 1) (-1)) (k + 2) 1
  else
    let m := addAt (addAt (h ++ [0, 0]) k (-2)) (k + 1) 1
    if k = 1 then addAt m 0 1 else if k > 1 then addAt m (k - 2) 1 else m
def doneL (h : List Int) (j : Bool) (k : Nat) : List Int := bare (doneU h j k)
def delta (f : Nat → Int) (j : Bool) (k : Nat) : Int :=
  if j then f (k + 2) - f k - f (k + 1) else if k = 0 then f 1 - 2 * f 0 else if k = 1 then f 2 + f 0 - 2 * f 1 else f (k + 1) + f (k - 2) - 2 * f k
theorem done_sum (f : Nat → Int) (h : List Int) (j : Bool) (k : Nat) (hf : fitsL h j k = true) : sumW f (doneL h j k) = sumW f h + delta f j k := by
  unfold doneL
  rw [sumW_bare]
  have h0 : sumW f (h ++ [0, 0]) = sumW f h := by rw [sumW_append]; simp [sumW]
  have hl : (h ++ [(0 : Int), 0]).length = h.length + 2 := by simp
  unfold doneU delta
  cases j with
  | true =>
    have hk : k + 1 < h.length := (of_decide_eq_true (by simpa [fitsL] using hf) : k + 1 < h.length ∧ _).1
    simp only [if_true]
    rw [addAt_sum _ _ _ _ (by simp only [addAt_len]; omega), addAt_sum _ _ _ _ (by simp only [addAt_len]; omega), addAt_sum _ _ _ _ (by omega), h0]
    omega
  | false =>
    have hk : k < h.length := (of_decide_eq_true (by simpa [fitsL] using hf) : k < h.length ∧ _).1
    simp only [Bool.false_eq_true, if_false]
    have e1 : sumW f (addAt (addAt (h ++ [0, 0]) k (-2)) (k + 1) 1) = sumW f h + f (k + 1) - 2 * f k := by
      rw [addAt_sum _ _ _ _ (by simp only [addAt_len]; omega), addAt_sum _ _ _ _ (by omega), h0]; omega
    by_cases k1 : k = 1
    · rw [if_pos k1, if_neg (by omega), if_pos k1, addAt_sum _ _ _ _ (by simp only [addAt_len]; omega), e1]
      subst k1; show _ + f 2 - _ + _ = _; omega
    · by_cases k0 : k = 0
      · rw [if_neg k1, if_neg (by omega), if_pos k0, e1]; subst k0; show _ + f 1 - _ = _; omega
      · rw [if_neg k1, if_pos (by omega), if_neg k0, if_neg k1, addAt_sum _ _ _ _ (by simp only [addAt_len]; omega), e1]; omega
/-- weight, shells, the bound -/
theorem delta_wt (j : Bool) (k : Nat) : delta Fb j k = 0 := by
  unfold delta
  cases j with
  | true => simp only [if_true]; have := Fb_two k; omega
  | false =>
    simp only [Bool.false_eq_true, if_false]
    by_cases k0 : k = 0
    · rw [if_pos k0]; decide
    · rw [if_neg k0]
      by_cases k1 : k = 1
      · rw [if_pos k1]; subst k1; decide
      · rw [if_neg k1]
        obtain ⟨m, rfl⟩ : ∃ m, k = m + 2 := ⟨k - 2, by omega⟩
        have h1 : Fb (m + 2 + 1) = Fb (m + 1) + Fb (m + 2) := rfl
        have h2 := Fb_two m
        rw [show m + 2 - 2 = m by omega]; omega
theorem delta_one (j : Bool) (k : Nat) : delta (fun _ => 1) j k = if j = true ∨ k = 0 then -1 else 0 := by
  unfold delta
  cases j with
  | true => simp
  | false =>
    simp only [Bool.false_eq_true, if_false, false_or]
    by_cases k0 : k = 0
    · rw [if_pos k0, if_pos k0]; decide
    · rw [if_neg k0, if_neg k0]
      by_cases k1 : k = 1
      · rw [if_pos k1]; decide
      · rw [if_neg k1]; decide
def bnd (k : Nat) : Int := (k : Int) + 3 + (if k > 0 then 1 else 0)
theorem delta_bnd (j : Bool) (k : Nat) : delta bnd j k ≤ -1 := by
  unfold delta bnd
  cases j with
  | true =>
    simp only [if_true]
    by_cases k0 : k = 0
    · subst k0; decide
    · rw [if_pos (by omega), if_pos (by omega), if_pos (by omega)]; omega
  | false =>
    simp only [Bool.false_eq_true, if_false]
    by_cases k0 : k = 0
    · rw [if_pos k0]; decide
    · rw [if_neg k0]
      by_cases k1 : k = 1
      · rw [if_pos k1]; subst k1; decide
      · rw [if_neg k1]
        by_cases k2 : k = 2
        · subst k2; decide
        · rw [if_pos (by omega), if_pos (by omega), if_pos (by omega)]; omega
theorem bnd_nonneg (k : Nat) : 0 ≤ bnd k := by unfold bnd; split <;> omega
theorem addAt_get (l : List Int) (k i : Nat) (v : Int) : (addAt l k v).getD i 0 = l.getD i 0 + (if i = k ∧ k < l.length then v else 0) := by
  unfold addAt
  rw [List.getD_eq_getElem?_getD, List.getElem?_set]
  by_cases h : k = i
  · subst h
    by_cases h2 : k < l.length
    · rw [if_pos rfl, if_pos h2, if_pos ⟨rfl, h2⟩]; rfl
    · rw [if_pos rfl, if_neg h2, if_neg (by omega), List.getD_eq_getElem?_getD, List.getElem?_eq_none (by omega)]; simp
  · rw [if_neg h, if_neg (by omega), ← List.getD_eq_getElem?_getD]; omega
theorem nn_of_get {l : List Int} (h : ∀ i, 0 ≤ l.getD i 0) : ∀ x ∈ l, 0 ≤ x := fun x hx => by
  obtain ⟨i, hi⟩ := List.getElem?_of_mem hx
  have := h i
  rw [List.getD_eq_getElem?_getD, hi] at this; exact this
theorem get_of_nn {l : List Int} (h : ∀ x ∈ l, 0 ≤ x) (i : Nat) : 0 ≤ l.getD i 0 := by
  rw [List.getD_eq_getElem?_getD]
  cases e : l[i]? with
  | none => exact Int.le_refl _
  | some v => exact h v (List.mem_of_getElem? e)
theorem done_nn (h : List Int) (j : Bool) (k : Nat) (hn : ∀ x ∈ h, 0 ≤ x) (hf : fitsL h j k = true) : ∀ x ∈ doneL h j k, 0 ≤ x := by
  intro x hx
  refine nn_of_get (l := doneU h j k) (fun i => ?_) x (bare_mem _ x hx)
  have hz : ∀ i, (h ++ [(0 : Int), 0]).getD i 0 = h.getD i 0 := fun i => by
    rw [List.getD_eq_getElem?_getD, List.getD_eq_getElem?_getD, List.getElem?_append]
    split
    · rfl
    · rename_i hi
      rw [List.getElem?_eq_none (l := h) (by omega)]
      match i - h.length with
      | 0 => rfl
      | 1 => rfl
      | n + 2 => simp
  have g := get_of_nn hn i
  unfold doneU
  cases j with
  | true =>
    have hk := (of_decide_eq_true (by simpa [fitsL] using hf) : k + 1 < h.length ∧ h.getD k 0 > 0 ∧ h.getD (k + 1) 0 > 0)
    simp only [if_true, addAt_get, hz, addAt_len]
    by_cases e1 : i = k
    · subst e1; split <;> split <;> split <;> omega
    · by_cases e2 : i = k + 1
      · subst e2; split <;> split <;> split <;> omega
      · split <;> split <;> split <;> omega
  | false =>
    have hk := (of_decide_eq_true (by simpa [fitsL] using hf) : k < h.length ∧ h.getD k 0 > 1)
    simp only [Bool.false_eq_true, if_false]
    have base : 0 ≤ (addAt (addAt (h ++ [0, 0]) k (-2)) (k + 1) 1).getD i 0 := by
      simp only [addAt_get, hz, addAt_len]
      by_cases e1 : i = k
      · subst e1; split <;> split <;> omega
      · split <;> split <;> omega
    split
    · rw [addAt_get]; split <;> omega
    · split
      · rw [addAt_get]; split <;> omega
      · exact base
/-- no move fits: still -/
theorem still_of_none : ∀ (h : List Int), (∀ x ∈ h, 0 ≤ x) → (∀ j k, fitsL h j k = false) → stl 0 h := by
  have key : ∀ (h : List Int) (b : Int), (∀ x ∈ h, 0 ≤ x) → 0 ≤ b → b ≤ 1 → (∀ k, ¬ (k < h.length ∧ h.getD k 0 > 1)) → (∀ k, ¬ (k + 1 < h.length ∧ h.getD k 0 > 0 ∧ h.getD (k + 1) 0 > 0)) → (h ≠ [] → ¬ (b > 0 ∧ h.getD 0 0 > 0)) → stl b h := by
    intro h
    induction h with
    | nil => intro b _ _ _ _ _ _; trivial
    | cons c t ih =>
      intro b hn hb0 hb1 hp hj hb
      have c0 : 0 ≤ c := hn c List.mem_cons_self
      have c1 : ¬ c > 1 := fun z => hp 0 ⟨by simp, by simpa using z⟩
      have c2 : ¬ (b > 0 ∧ c > 0) := by simpa using hb (by simp)
      refine ⟨c0, by omega, by omega, ih c (fun x hx => hn x (List.mem_cons_of_mem _ hx)) c0 (by omega) (fun k z => hp (k + 1) ⟨by simpa using z.1, by simpa using z.2⟩) (fun k z => hj (k + 1) ⟨by simpa using z.1, by simpa using z.2⟩) fun ne z => ?_⟩
      exact hj 0 ⟨by simpa using List.length_pos_iff.mpr ne, by simpa using z.1, by simpa using z.2⟩
  intro h hn hf
  refine key h 0 hn (by omega) (by omega) (fun k z => ?_) (fun k z => ?_) (by simp)
  · have e : fitsL h false k = decide (k < h.length ∧ h.getD k 0 > 1) := rfl
    have := hf false k
    rw [e, decide_eq_true z] at this; cases this
  · have e : fitsL h true k = decide (k + 1 < h.length ∧ h.getD k 0 > 0 ∧ h.getD (k + 1) 0 > 0) := rfl
    have := hf true k
    rw [e, decide_eq_true z] at this; cases this
end Sh

set_option linter.all false
namespace Sh
/-- a + b psi, psi * psi = psi + 1 (psi the smaller root) -/
structure E where
  a : Int
  b : Int
theorem E.ext' {x y : E} (h1 : x.a = y.a) (h2 : x.b = y.b) : x = y := by cases x; cases y; simp at h1 h2; rw [h1, h2]
def E.add (x y : E) : E := ⟨x.a + y.a, x.b + y.b⟩
def E.mul (x y : E) : E := ⟨x.a * y.a + x.b * y.b, x.a * y.b + x.b * y.a + x.b * y.b⟩
theorem E.mul_comm (x y : E) : x.mul y = y.mul x := by apply E.ext' <;> simp only [E.mul] <;> grind
theorem E.mul_assoc (x y z : E) : (x.mul y).mul z = x.mul (y.mul z) := by apply E.ext' <;> simp only [E.mul] <;> grind
theorem E.add_mul (x y z : E) : (x.add y).mul z = (x.mul z).add (y.mul z) := by apply E.ext' <;> simp only [E.mul, E.add] <;> grind
/-- by psi to the minus second -/
def E.up (x : E) : E := ⟨2 * x.a - x.b, x.b - x.a⟩
def E.ups : Nat → E → E
  | 0, x => x
  | n + 1, x => E.ups n x.up
theorem ups_succ : ∀ n x, E.ups (n + 1) x = (E.ups n x).up
  | 0, x => rfl
  | n + 1, x => by show E.ups (n + 1) x.up = _; rw [ups_succ n x.up]; rfl
theorem ups_add : ∀ n m x, E.ups (n + m) x = E.ups n (E.ups m x)
  | n, 0, x => rfl
  | n, m + 1, x => by show E.ups (n + m) x.up = _; rw [ups_add n m x.up]; rfl
def E.C (x : E) : Prop := x.b ≤ 0 ∧ 0 ≤ x.a + x.b ∧ 0 < x.a
theorem C_up {x : E} (h : x.C) : x.up.C := by
  obtain ⟨h1, h2, h3⟩ := h; refine ⟨?_, ?_, ?_⟩ <;> simp only [E.up] <;> omega
theorem C_ups {x : E} (h : x.C) : ∀ n, (E.ups n x).C
  | 0 => h
  | n + 1 => by rw [ups_succ]; exact C_up (C_ups h n)
theorem C_add {x y : E} (h : x.C) (k : y.C) : (x.add y).C := by
  obtain ⟨h1, h2, h3⟩ := h; obtain ⟨k1, k2, k3⟩ := k; refine ⟨?_, ?_, ?_⟩ <;> simp only [E.add] <;> omega
theorem C_mul {x y : E} (h : x.C) (k : y.C) : (x.mul y).C := by
  obtain ⟨h1, h2, h3⟩ := h; obtain ⟨k1, k2, k3⟩ := k
  cases x with | mk a b => cases y with | mk c d =>
  simp only at *
  have e1 : 0 ≤ a * (-d) := Int.mul_nonneg (by omega) (by omega)
  have e2 : 0 ≤ (-b) * (c + d) := Int.mul_nonneg (by omega) (by omega)
  have e3 : 0 ≤ (-b) * (-d) := Int.mul_nonneg (by omega) (by omega)
  have e4 : 0 ≤ (a + b) * (c + d) := Int.mul_nonneg (by omega) (by omega)
  have e5 : 0 < a * c := Int.mul_pos (by omega) (by omega)
  refine ⟨?_, ?_, ?_⟩ <;> simp only [E.mul] <;> grind
def E.Pos (x : E) : Prop := ∃ n, (E.ups n x).C
theorem up_add (x y : E) : (x.add y).up = x.up.add y.up := by apply E.ext' <;> simp only [E.up, E.add] <;> omega
theorem up_mul (x y : E) : (x.mul y).up = x.up.mul y := by apply E.ext' <;> simp only [E.up, E.mul] <;> grind
theorem up_mul' (x y : E) : (x.mul y).up = x.mul y.up := by apply E.ext' <;> simp only [E.up, E.mul] <;> grind
theorem ups_add' : ∀ (n : Nat) (x y : E), E.ups n (x.add y) = (E.ups n x).add (E.ups n y)
  | 0, _, _ => rfl
  | n + 1, x, y => by show E.ups n (x.add y).up = _; rw [up_add, ups_add' n]; rfl
theorem ups_mul : ∀ (n : Nat) (x y : E), E.ups n (x.mul y) = (E.ups n x).mul y
  | 0, _, _ => rfl
  | n + 1, x, y => by show E.ups n (x.mul y).up = _; rw [up_mul, ups_mul n]; rfl
theorem ups_mul' : ∀ (n : Nat) (x y : E), E.ups n (x.mul y) = x.mul (E.ups n y)
  | 0, _, _ => rfl
  | n + 1, x, y => by show E.ups n (x.mul y).up = _; rw [up_mul', ups_mul' n]; rfl
theorem Pos.add {x y : E} (h : x.Pos) (k : y.Pos) : (x.add y).Pos := by
  obtain ⟨n, h⟩ := h; obtain ⟨m, k⟩ := k
  refine ⟨n + m, ?_⟩
  rw [ups_add']
  have a1 : (E.ups (n + m) x).C := by rw [Nat.add_comm, ups_add]; exact C_ups h m
  have a2 : (E.ups (n + m) y).C := by rw [ups_add]; exact C_ups k n
  exact C_add a1 a2
theorem Pos.mul {x y : E} (h : x.Pos) (k : y.Pos) : (x.mul y).Pos := by
  obtain ⟨n, h⟩ := h; obtain ⟨m, k⟩ := k
  refine ⟨n + m, ?_⟩
  rw [ups_add, ups_mul', ups_mul]
  exact C_mul h k
theorem ups_zero : ∀ n, E.ups n ⟨0, 0⟩ = ⟨0, 0⟩
  | 0 => rfl
  | n + 1 => by show E.ups n (E.up ⟨0, 0⟩) = _; exact ups_zero n
theorem not_pos_zero : ¬ E.Pos ⟨0, 0⟩ := by
  rintro ⟨n, h⟩; rw [ups_zero] at h; exact absurd h.2.2 (by simp)
theorem pos_int {k : Int} (h : E.Pos ⟨k, 0⟩) : 0 < k := by
  by_cases e : 0 < k
  · exact e
  by_cases z : k = 0
  · subst z; exact absurd h not_pos_zero
  · have q : E.Pos ⟨-k, 0⟩ := ⟨0, by show E.C ⟨-k, 0⟩; refine ⟨?_, ?_, ?_⟩ <;> simp only <;> omega⟩
    have := Pos.add h q
    simp only [E.add] at this
    rw [show k + -k = 0 by omega] at this
    exact absurd this not_pos_zero
def E.psi : E := ⟨0, 1⟩
def E.psi2 : E := ⟨1, 1⟩
def E.mpsi : E := ⟨0, -1⟩
theorem pos_psi2 : E.psi2.Pos := ⟨1, by refine ⟨?_, ?_, ?_⟩ <;> decide⟩
theorem pos_mpsi : E.mpsi.Pos := ⟨1, by refine ⟨?_, ?_, ?_⟩ <;> decide⟩
theorem pos_one : E.Pos ⟨1, 0⟩ := ⟨0, by refine ⟨?_, ?_, ?_⟩ <;> decide⟩
/-- the window -/
structure E.Win (x : E) : Prop where
  lo : E.Pos ⟨x.a + 1, x.b + 1⟩
  hi : E.Pos ⟨-x.a, -x.b - 1⟩
theorem win_same {x y : E} (hx : x.Win) (hy : y.Win) (h : x.b = y.b) : x = y := by
  have h1 := pos_int (k := x.a - y.a + 1) (by have := Pos.add hx.lo hy.hi; simp only [E.add] at this; rw [show x.a + 1 + -y.a = x.a - y.a + 1 by omega, show x.b + 1 + (-y.b - 1) = 0 by omega] at this; exact this)
  have h2 := pos_int (k := y.a - x.a + 1) (by have := Pos.add hy.lo hx.hi; simp only [E.add] at this; rw [show y.a + 1 + -x.a = y.a - x.a + 1 by omega, show y.b + 1 + (-x.b - 1) = 0 by omega] at this; exact this)
  exact E.ext' (by omega) h
theorem pos_of {x y : E} (h : x.Pos) (e1 : x.a = y.a) (e2 : x.b = y.b) : y.Pos := by rw [← E.ext' e1 e2]; exact h
theorem win_nil : E.Win ⟨0, 0⟩ := ⟨pos_psi2, pos_mpsi⟩
theorem win_zero {x : E} (h : x.Win) : E.Win ⟨x.b, x.a + x.b⟩ := by
  refine ⟨pos_of (Pos.mul pos_mpsi h.hi) ?_ ?_, pos_of (Pos.mul pos_mpsi (Pos.add h.lo pos_mpsi)) ?_ ?_⟩ <;> simp only [E.mul, E.mpsi, E.add] <;> omega
theorem win_one {x : E} (h : x.Win) : E.Win ⟨x.a + x.b + 1, x.a + 2 * x.b + 1⟩ := by
  refine ⟨pos_of (Pos.mul pos_psi2 (Pos.add h.lo (Pos.add pos_one pos_mpsi))) ?_ ?_, pos_of (Pos.mul pos_psi2 h.hi) ?_ ?_⟩ <;> simp only [E.mul, E.psi2, E.mpsi, E.add] <;> omega
theorem win_mul {x y : E} (hx : x.Win) (hy : y.Win) : (x.mul y).Win := by
  have p4 : E.Pos ⟨2, 3⟩ := pos_of (Pos.mul pos_psi2 pos_psi2) rfl rfl
  have q1 : E.Pos ⟨3, 4⟩ := pos_of (Pos.add p4 pos_psi2) rfl rfl
  have q2 : E.Pos ⟨2, 2⟩ := pos_of (Pos.add pos_psi2 pos_psi2) rfl rfl
  have m3 : E.Pos ⟨-1, -2⟩ := pos_of (Pos.mul pos_psi2 pos_mpsi) rfl rfl
  have m4 : E.Pos ⟨-2, -4⟩ := pos_of (Pos.add m3 m3) rfl rfl
  have s1 : E.Pos ⟨-1, -3⟩ := pos_of (Pos.add m3 pos_mpsi) rfl rfl
  have u11 := Pos.mul hx.lo hy.lo
  have u12 := Pos.mul hx.lo hy.hi
  have u21 := Pos.mul hx.hi hy.lo
  have u22 := Pos.mul hx.hi hy.hi
  refine ⟨pos_of (Pos.add (Pos.add (Pos.mul u22 q1) (Pos.mul (Pos.add u12 u21) p4)) (Pos.mul u11 q2)) ?_ ?_, ?_⟩
  · simp only [E.mul, E.add]; grind
  · simp only [E.mul, E.add]; grind
  · have c1 : E.Pos ⟨-2, -4⟩ := m4
    have c2 : E.Pos ⟨-1, -3⟩ := s1
    have c3 : E.Pos ⟨-1, -2⟩ := m3
    exact pos_of (Pos.add (Pos.add (Pos.mul u11 c3) (Pos.mul (Pos.add u12 u21) c2)) (Pos.mul u22 c1)) (by simp only [E.mul, E.add]; grind) (by simp only [E.mul, E.add]; grind)
/-- the element of a heap -/
def xl : List Int → E
  | [] => ⟨0, 0⟩
  | c :: t => ⟨c + (xl t).b, c + (xl t).a + (xl t).b⟩
theorem wtF_xl : ∀ (a b : Int) (l : List Int), wtF a b l = (xl l).a * (2 * a - b) + (xl l).b * (b - a)
  | a, b, [] => by simp [wtF, xl]
  | a, b, c :: t => by
    show c * a + wtF b (a + b) t = _
    rw [wtF_xl b (a + b) t]
    simp only [xl]
    grind
theorem wt_xl (l : List Int) : wt l = (xl l).b := by
  unfold wt; rw [wtF_xl]; omega
theorem xl_win : ∀ (n : Nat) (l : List Int), l.length ≤ n → ∀ b : Int, 0 ≤ b → b ≤ 1 → stl b l → (xl l).Win := by
  intro n
  induction n with
  | zero => intro l hl b _ _ _; rw [List.length_eq_zero_iff.mp (by omega : l.length = 0)]; exact win_nil
  | succ k ih =>
    intro l hl b hb0 hb1 hs
    match l, hl, hs with
    | [], _, _ => exact win_nil
    | c :: t, hl, hs =>
      obtain ⟨h0, h1, h2, h3⟩ := hs
      have hlt : t.length ≤ k := by simpa using hl
      by_cases e : c = 0
      · subst e
        have := win_zero (ih t hlt 0 (by omega) (by omega) h3)
        simp only [xl]
        rw [show (0 : Int) + (xl t).b = (xl t).b by omega, show (0 : Int) + (xl t).a + (xl t).b = (xl t).a + (xl t).b by omega]
        exact this
      · have ec : c = 1 := by omega
        subst ec
        match t, hlt, h3 with
        | [], _, _ =>
          have := win_one win_nil
          simp only [xl]
          exact this
        | d :: r, hlt, h3 =>
          obtain ⟨g0, g1, g2, g3⟩ := h3
          have ed : d = 0 := by omega
          subst ed
          have := win_one (ih r (by simp at hlt; omega) 0 (by omega) (by omega) g3)
          simp only [xl]
          rw [show (1 : Int) + (0 + (xl r).a + (xl r).b) = (xl r).a + (xl r).b + 1 by omega, show (1 : Int) + (0 + (xl r).b) + (0 + (xl r).a + (xl r).b) = (xl r).a + 2 * (xl r).b + 1 by omega]
          exact this
theorem still_win {l : List Int} (h : Still l) : (xl l).Win := xl_win _ l (Nat.le_refl _) 0 (by omega) (by omega) h.1
/-- woven: the still heap of the product's weight IS the product -/
theorem weave {l r t : List Int} (hl : Still l) (hr : Still r) (ht : Still t) (h : wt t = ((xl l).mul (xl r)).b) : xl t = (xl l).mul (xl r) :=
  win_same (still_win ht) (win_mul (still_win hl) (still_win hr)) (by rw [← wt_xl]; exact h)
theorem xl_inj {l m : List Int} (hl : Still l) (hm : Still m) (h : xl l = xl m) : l = m := still_one hl hm (by rw [wt_xl, wt_xl, h])
end Sh

set_option linter.all false
set_option exponentiation.threshold 3000
namespace Sh
/-- THE row of a number -/
noncomputable def zrow (n : Int) : List Int := if h : 0 ≤ n then zk (Classical.choose (steps_of n h)) n else []
theorem zrow_ok {n : Int} (h : 0 ≤ n) : Still (zrow n) ∧ wt (zrow n) = n := by
  unfold zrow
  rw [dif_pos h]
  have := Classical.choose_spec (steps_of n h)
  exact zk_row h this.1 this.2
theorem zrow_of {l : List Int} {n : Int} (h : Still l) (e : wt l = n) : l = zrow n := by
  have h0 : 0 ≤ n := by rw [← e]; exact (stl_lt _ l rfl h.1).1
  exact still_one h (zrow_ok h0).1 (e.trans (zrow_ok h0).2.symm)
theorem zrow_zk {m : Nat} {n : Int} (h0 : 0 ≤ n) (h1 : n < Fb m) (h2 : m = 0 ∨ Fb (m - 1) ≤ n) : zk m n = zrow n :=
  zrow_of (zk_row h0 h1 h2).1 (zk_row h0 h1 h2).2
theorem zrow_zero : zrow 0 = [] := (zrow_of (l := []) ⟨trivial, .inl rfl⟩ rfl).symm
/-- how long it is -/
theorem zrow_len {n : Int} {m : Nat} (h0 : 0 ≤ n) (h : n < Fb m) : (zrow n).length ≤ m := by
  by_cases e : zrow n = []
  · rw [e]; exact Nat.zero_le _
  · have := still_low (zrow_ok h0).1 e
    rw [(zrow_ok h0).2] at this
    have p := List.length_pos_iff.mpr e
    by_cases c : (zrow n).length ≤ m
    · exact c
    · have := Fb_mono (m := m) (n := (zrow n).length - 1) (by omega); omega
theorem stl_mem {b : Int} : ∀ {l : List Int}, stl b l → ∀ x ∈ l, x = 0 ∨ x = 1 := by
  intro l
  induction l generalizing b with
  | nil => intro _ x hx; cases hx
  | cons c t ih =>
    intro h x hx
    rcases List.mem_cons.mp hx with rfl | hx
    · have := h.1; have := h.2.1; omega
    · exact ih h.2.2.2 x hx
theorem zrow_mem {n : Int} (h : 0 ≤ n) : ∀ x ∈ zrow n, x = 0 ∨ x = 1 := stl_mem (zrow_ok h).1.1
theorem Fb_pow : ∀ n : Nat, Fb n < 2 ^ (n + 1)
  | 0 => by decide
  | 1 => by decide
  | n + 2 => by
    have h1 := Fb_pow n
    have h2 := Fb_pow (n + 1)
    have e1 : (2 : Int) ^ (n + 1 + 1) = 2 * 2 ^ (n + 1) := by rw [Int.pow_succ, Int.mul_comm]
    have e2 : (2 : Int) ^ (n + 2 + 1) = 4 * 2 ^ (n + 1) := by rw [Int.pow_succ, show n + 2 = n + 1 + 1 by omega, e1]; omega
    have p : (0 : Int) < 2 ^ (n + 1) := Int.pow_pos (by decide)
    have e3 : Fb (n + 2) = Fb n + Fb (n + 1) := rfl
    omega
theorem pow_Fb : ∀ k : Nat, (2 : Int) ^ k ≤ Fb (2 * k)
  | 0 => by decide
  | k + 1 => by
    have h := pow_Fb k
    have e : Fb (2 * (k + 1)) = Fb (2 * k) + Fb (2 * k + 1) := rfl
    have := Fb_lt (2 * k)
    rw [Int.pow_succ]; omega
theorem two_mono {m n : Nat} (h : m ≤ n) : (2 : Int) ^ m ≤ 2 ^ n := by
  induction n with
  | zero => rw [show m = 0 by omega]; exact Int.le_refl _
  | succ k ih =>
    by_cases e : m = k + 1
    · rw [e]; exact Int.le_refl _
    · have := ih (by omega)
      have p : (0 : Int) < 2 ^ k := Int.pow_pos (by decide)
      rw [Int.pow_succ]; omega
theorem nat_abs_lt {x : Int} {m : Nat} (h0 : 0 ≤ x) (h : x < 2 ^ m) : x.natAbs < 2 ^ m := by
  have : ((x.natAbs : Nat) : Int) < ((2 ^ m : Nat) : Int) := by
    rw [Int.natAbs_of_nonneg h0]; simpa using h
  exact Int.ofNat_lt.mp this
theorem bitsF {i m : Nat} (h : i + 1 ≤ m) : (Fb i).natAbs < 2 ^ m := nat_abs_lt (Int.le_of_lt (Fb_pos i)) (Int.lt_of_lt_of_le (Fb_pow i) (two_mono h))
/-- a great sum, bounded -/
theorem sumW_le : ∀ (f : Nat → Int) (l : List Int) (M F : Int), 0 ≤ F → (∀ k, k < l.length → 0 ≤ f k ∧ f k ≤ F) → (∀ x ∈ l, 0 ≤ x ∧ x ≤ M) → 0 ≤ M → sumW f l ≤ l.length * (F * M)
  | _, [], _, _, _, _, _, _ => by simp [sumW]
  | f, c :: t, M, F, hF, hf, hl, hM => by
    have ih := sumW_le (fun k => f (k + 1)) t M F hF (fun k hk => hf (k + 1) (by simpa using hk)) (fun x hx => hl x (List.mem_cons_of_mem _ hx)) hM
    have h1 := hf 0 (by simp)
    have h2 := hl c List.mem_cons_self
    have h3 : f 0 * c ≤ F * M := Int.mul_le_mul h1.2 h2.2 h2.1 hF
    show f 0 * c + _ ≤ _
    have e : (((c :: t).length : Nat) : Int) * (F * M) = (t.length : Int) * (F * M) + F * M := by
      rw [List.length_cons]; push_cast; rw [Int.add_mul]; omega
    rw [e]; omega
theorem wt_lt {l : List Int} {n : Nat} (hl : l.length ≤ 400) (hb : ∀ x ∈ l, 0 ≤ x ∧ x ≤ 10 ^ 60) : 0 ≤ wt l ∧ wt l < 2 ^ 700 := by
  rw [wt_sum]
  refine ⟨sumW_nonneg _ _ (fun k => Int.le_of_lt (Fb_pos k)) fun x hx => (hb x hx).1, ?_⟩
  have h1 := sumW_le Fb l (10 ^ 60) (2 ^ 401) (Int.le_of_lt (Int.pow_pos (by decide))) (fun k hk => ⟨Int.le_of_lt (Fb_pos k), Int.le_of_lt (Int.lt_of_lt_of_le (Fb_pow k) (two_mono (by omega)))⟩) hb (by decide)
  have h2 : (l.length : Int) * (2 ^ 401 * 10 ^ 60) ≤ 400 * (2 ^ 401 * 10 ^ 60) := Int.mul_le_mul_of_nonneg_right (by omega) (Int.mul_nonneg (Int.le_of_lt (Int.pow_pos (by decide))) (by decide))
  exact Int.lt_of_le_of_lt (Int.le_trans h1 h2) (by decide +kernel)
/-! ### woven: each pair's worth -/
theorem sumW_add (f g : Nat → Int) : ∀ l : List Int, sumW (fun k => f k + g k) l = sumW f l + sumW g l
  | [] => rfl
  | c :: t => by
    show (f 0 + g 0) * c + sumW (fun k => f (k + 1) + g (k + 1)) t = f 0 * c + sumW (fun k => f (k + 1)) t + (g 0 * c + sumW (fun k => g (k + 1)) t)
    rw [sumW_add (fun k => f (k + 1)) (fun k => g (k + 1)) t, Int.add_mul]; omega
theorem sumW_mul (a : Int) (f : Nat → Int) : ∀ l : List Int, sumW (fun k => a * f k) l = a * sumW f l
  | [] => by simp [sumW]
  | c :: t => by
    show a * f 0 * c + sumW (fun k => a * f (k + 1)) t = a * (f 0 * c + sumW (fun k => f (k + 1)) t)
    rw [sumW_mul a (fun k => f (k + 1)) t, Int.mul_add, Int.mul_assoc]
theorem sumW_congr {f g : Nat → Int} (h : ∀ k, f k = g k) (l : List Int) : sumW f l = sumW g l := by
  rw [show f = g from funext h]
theorem fbF_shift : ∀ (i n : Nat), fbF (Fb i) (Fb (i + 1)) n = Fb (i + n)
  | _, 0 => rfl
  | i, n + 1 => by
    show fbF (Fb (i + 1)) (Fb i + Fb (i + 1)) n = _
    have : Fb i + Fb (i + 1) = Fb (i + 1 + 1) := rfl
    rw [this, fbF_shift (i + 1) n, show i + 1 + n = i + (n + 1) by omega]
theorem sumW_shift (i : Nat) (l : List Int) : sumW (fun j => Fb (i + j)) l = (xl l).a * (2 * Fb i - Fb (i + 1)) + (xl l).b * (Fb (i + 1) - Fb i) := by
  rw [← wtF_xl, wtF_sum]
  exact sumW_congr (fun k => (fbF_shift i k).symm) l
theorem row_pair (i : Nat) (r : List Int) : sumW (fun j => Fb (i + j + 2)) r = (xl r).a * Fb i + (xl r).b * Fb (i + 1) := by
  have e : sumW (fun j => Fb (i + j + 2)) r = sumW (fun j => Fb (i + 2 + j)) r := sumW_congr (fun k => by rw [show i + k + 2 = i + 2 + k by omega]) r
  rw [e, sumW_shift]
  have h1 : Fb (i + 2) = Fb i + Fb (i + 1) := rfl
  have h2 : Fb (i + 2 + 1) = Fb (i + 1) + Fb (i + 2) := rfl
  have h3 : 2 * Fb (i + 2) - Fb (i + 2 + 1) = Fb i := by omega
  have h4 : Fb (i + 2 + 1) - Fb (i + 2) = Fb (i + 1) := by omega
  rw [h3, h4]
/-- the weight of all shells that come -/
def prodW (l r : List Int) : Int := ((xl l).mul (xl r)).b
theorem prodW_sum (l r : List Int) : sumW (fun i => sumW (fun j => Fb (i + j + 2)) r) l = prodW l r := by
  rw [sumW_congr (fun i => row_pair i r), sumW_add, sumW_mul, sumW_mul, ← wt_sum, wt_xl]
  have e : sumW (fun k => Fb (k + 1)) l = (xl l).a + (xl l).b := by
    rw [sumW_congr (fun k => by rw [Nat.add_comm]) l, sumW_shift]
    have e1 : Fb 1 = 2 := rfl
    have e2 : Fb (1 + 1) = 3 := rfl
    rw [e1, e2]; omega
  rw [e]
  unfold prodW E.mul
  simp only
  grind
theorem prodW_comm (l r : List Int) : prodW l r = prodW r l := by unfold prodW; rw [E.mul_comm]
theorem prodW_nil (l : List Int) : prodW l [] = 0 := by unfold prodW E.mul xl; simp
theorem prodW_nn {l r : List Int} (hl : ∀ x ∈ l, 0 ≤ x) (hr : ∀ x ∈ r, 0 ≤ x) : 0 ≤ prodW l r := by
  rw [← prodW_sum]
  exact sumW_nonneg _ _ (fun i => sumW_nonneg _ _ (fun j => Int.le_of_lt (Fb_pos _)) hr) hl
end Sh

set_option linter.all false
set_option maxRecDepth 100000
set_option autoImplicit false
namespace Sh
/-! how long a woven row can be; products of many -/
theorem stl_pad : ∀ (c : Nat) {l : List Int}, stl 0 l → stl 0 (List.replicate c 0 ++ l)
  | 0, l, h => h
  | c + 1, l, h => by
    rw [List.replicate_succ, List.cons_append]
    exact ⟨by decide, by decide, by decide, stl_pad c h⟩
theorem sumW_pad (f : Nat → Int) : ∀ (c : Nat) (l : List Int), sumW f (List.replicate c 0 ++ l) = sumW (fun j => f (c + j)) l := by
  intro c l
  rw [sumW_append, sumW_zeros, List.length_replicate, Int.zero_add]
  exact sumW_congr (fun k => by rw [Nat.add_comm]) l
theorem shift_lt {c : Nat} {l : List Int} (h : stl 0 l) : sumW (fun j => Fb (c + j)) l < Fb (c + l.length) := by
  have h1 := (stl_lt _ _ rfl (stl_pad c h)).2
  rw [wt_sum, sumW_pad, List.length_append, List.length_replicate] at h1
  exact h1
theorem sumW_mono {f g : Nat → Int} : ∀ (l : List Int), (∀ x ∈ l, 0 ≤ x) → (∀ k, f k ≤ g k) → sumW f l ≤ sumW g l := by
  intro l
  induction l generalizing f g with
  | nil => intro _ _; exact Int.le_refl _
  | cons x t ih =>
    intro hx h
    show f 0 * x + sumW (fun k => f (k + 1)) t ≤ g 0 * x + sumW (fun k => g (k + 1)) t
    exact Int.add_le_add (Int.mul_le_mul_of_nonneg_right (h 0) (hx x (.head _))) (ih (fun y hy => hx y (.tail _ hy)) fun k => h (k + 1))
theorem prodW_lt {l r : List Int} (hl : Still l) (hr : Still r) : prodW l r < Fb (l.length + r.length + 2) := by
  rw [← prodW_sum]
  have nn : ∀ x ∈ l, 0 ≤ x := fun x hx => by rcases stl_mem hl.1 x hx with h | h <;> rw [h] <;> decide
  have h1 : sumW (fun i => sumW (fun j => Fb (i + j + 2)) r) l ≤ sumW (fun i => Fb (2 + r.length + i)) l := by
    refine sumW_mono l nn fun i => ?_
    have h2 := shift_lt (c := i + 2) hr.1
    have e : sumW (fun j => Fb (i + j + 2)) r = sumW (fun j => Fb (i + 2 + j)) r := sumW_congr (fun j => by rw [show i + j + 2 = i + 2 + j by omega]) r
    rw [e, show 2 + r.length + i = i + 2 + r.length by omega]
    exact Int.le_of_lt h2
  have h3 := shift_lt (c := 2 + r.length) hl.1
  rw [show l.length + r.length + 2 = 2 + r.length + l.length by omega]
  exact Int.lt_of_le_of_lt h1 h3
theorem prodW_still {l r : List Int} (hl : Still l) (hr : Still r) : 0 ≤ prodW l r := by
  refine prodW_nn (fun x hx => ?_) fun x hx => ?_
  · rcases stl_mem hl.1 x hx with h | h <;> rw [h] <;> decide
  · rcases stl_mem hr.1 x hx with h | h <;> rw [h] <;> decide
/-- the woven row: still, its place in the ring, its length -/
theorem woven_ok {l r : List Int} (hl : Still l) (hr : Still r) : Still (zrow (prodW l r)) ∧ xl (zrow (prodW l r)) = (xl l).mul (xl r) ∧ (zrow (prodW l r)).length ≤ l.length + r.length + 2 := by
  have h0 := prodW_still hl hr
  obtain ⟨h1, h2⟩ := zrow_ok h0
  exact ⟨h1, weave hl hr h1 h2, zrow_len h0 (prodW_lt hl hr)⟩
def E.one : E := ⟨1, 0⟩
theorem E.one_mul (x : E) : E.one.mul x = x := by apply E.ext' <;> simp [E.mul, E.one]
theorem E.mul_one (x : E) : x.mul E.one = x := by rw [E.mul_comm, E.one_mul]
def pr : List E → E
  | [] => E.one
  | x :: t => x.mul (pr t)
theorem pr_append : ∀ xs ys : List E, pr (xs ++ ys) = (pr xs).mul (pr ys)
  | [], ys => (E.one_mul _).symm
  | x :: t, ys => by show x.mul (pr (t ++ ys)) = (x.mul (pr t)).mul (pr ys); rw [pr_append t ys, E.mul_assoc]
theorem pr_one (x : E) : pr [x] = x := E.mul_one x
theorem pr_rot (xs ys : List E) : pr (ys ++ xs) = pr (xs ++ ys) := by rw [pr_append, pr_append, E.mul_comm]
theorem pr_snoc (xs : List E) (y : E) : pr (xs ++ [y]) = (pr xs).mul y := by rw [pr_append, pr_one]
/-- the lengths of rows, and two more for each -/
def lens : List (List Int) → Nat
  | [] => 0
  | l :: t => l.length + 2 + lens t
theorem lens_append : ∀ xs ys, lens (xs ++ ys) = lens xs + lens ys
  | [], ys => by simp [lens]
  | x :: t, ys => by show _ + lens (t ++ ys) = _ + lens t + _; rw [lens_append t ys]; omega
theorem lens_le {m : Nat} : ∀ ls : List (List Int), (∀ l ∈ ls, l.length ≤ m) → lens ls ≤ ls.length * (m + 2)
  | [], _ => Nat.zero_le _
  | l :: t, h => by
    have h1 := h l (.head _)
    have h2 := lens_le t fun x hx => h x (.tail _ hx)
    show l.length + 2 + lens t ≤ (t.length + 1) * (m + 2)
    rw [Nat.add_mul]; omega
end Sh

set_option linter.all false
set_option maxRecDepth 100000
set_option autoImplicit false
namespace Sh
/-! the moves that fit, in their order -/
def mvAt (h : List Int) (k : Nat) : List (Bool × Nat) := (if fitsL h true k = true then [(true, k)] else []) ++ (if fitsL h false k = true then [(false, k)] else [])
def mvTo (h : List Int) : Nat → List (Bool × Nat)
  | 0 => []
  | n + 1 => mvTo h n ++ mvAt h n
def mvsOf (h : List Int) : List (Bool × Nat) := mvTo h h.length
theorem fits_lt {h : List Int} {j : Bool} {k : Nat} (f : fitsL h j k = true) : k < h.length := by
  unfold fitsL at f
  cases j
  · simp at f; exact f.1
  · simp at f; omega
theorem mem_mvAt {h : List Int} {n : Nat} {j : Bool} {k : Nat} : (j, k) ∈ mvAt h n ↔ n = k ∧ fitsL h j k = true := by
  unfold mvAt
  cases j
  · by_cases a : fitsL h true n = true <;> by_cases b : fitsL h false n = true <;> simp [a, b] <;> (try (constructor <;> intro z)) <;> grind
  · by_cases a : fitsL h true n = true <;> by_cases b : fitsL h false n = true <;> simp [a, b] <;> (try (constructor <;> intro z)) <;> grind
theorem mem_mvTo {h : List Int} {j : Bool} {k : Nat} : ∀ {n : Nat}, (j, k) ∈ mvTo h n ↔ k < n ∧ fitsL h j k = true
  | 0 => by simp [mvTo]
  | n + 1 => by
    show (j, k) ∈ mvTo h n ++ mvAt h n ↔ _
    rw [List.mem_append, mem_mvTo, mem_mvAt]
    constructor
    · rintro (⟨a, b⟩ | ⟨rfl, b⟩)
      · exact ⟨by omega, b⟩
      · exact ⟨by omega, b⟩
    · rintro ⟨a, b⟩
      by_cases c : k < n
      · exact .inl ⟨c, b⟩
      · exact .inr ⟨by omega, b⟩
theorem mem_mvs {h : List Int} {j : Bool} {k : Nat} : (j, k) ∈ mvsOf h ↔ fitsL h j k = true := by
  unfold mvsOf
  rw [mem_mvTo]
  exact ⟨fun z => z.2, fun z => ⟨fits_lt z, z⟩⟩
theorem mvAt_len (h : List Int) (k : Nat) : (mvAt h k).length ≤ 2 := by
  unfold mvAt
  by_cases a : fitsL h true k = true <;> by_cases b : fitsL h false k = true <;> simp [a, b]
theorem mvTo_len (h : List Int) : ∀ n, (mvTo h n).length ≤ 2 * n
  | 0 => Nat.le_refl _
  | n + 1 => by
    show (mvTo h n ++ mvAt h n).length ≤ _
    rw [List.length_append]
    have := mvTo_len h n
    have := mvAt_len h n
    omega
theorem mvs_len (h : List Int) : (mvsOf h).length ≤ 2 * h.length := mvTo_len h _
theorem mvs_nil {h : List Int} (e : mvsOf h = []) : ∀ j k, fitsL h j k = false := fun j k => by
  cases f : fitsL h j k with
  | false => rfl
  | true =>
    have := mem_mvs.mpr f
    rw [e] at this; cases this
/-- a heap: counts from 0 on, the last one is not 0 -/
def Heapy (h : List Int) : Prop := (∀ x ∈ h, 0 ≤ x) ∧ bare h = h
theorem bare_heapy {l : List Int} (h : ∀ x ∈ l, 0 ≤ x) : Heapy (bare l) := ⟨fun x hx => h x (bare_mem l x hx), bare_bare l⟩
theorem heapy_still {h : List Int} (hh : Heapy h) (e : mvsOf h = []) : Still h := by
  have s := still_of_none h hh.1 (mvs_nil e)
  refine ⟨s, ?_⟩
  rcases snoc_cases h with rfl | ⟨m, c, rfl⟩
  · exact .inl rfl
  · right
    have hb := hh.2
    rw [bare_snoc] at hb
    rw [lst_snoc]
    have h2 := (stl_snoc 0 m c).mp s
    by_cases z : c = 0
    · rw [if_pos z] at hb
      have h3 := congrArg List.length hb
      have h4 := bare_len m
      rw [List.length_append] at h3; simp at h3; omega
    · omega
theorem still_heapy {h : List Int} (s : Still h) : Heapy h := by
  refine ⟨fun x hx => by rcases stl_mem s.1 x hx with z | z <;> omega, ?_⟩
  rcases snoc_cases h with rfl | ⟨m, c, rfl⟩
  · rfl
  · rw [bare_snoc]
    rcases s.2 with z | z
    · simp at z
    · rw [lst_snoc] at z
      rw [if_neg (by omega)]
theorem still_none {h : List Int} (s : Still h) : mvsOf h = [] := by
  have key : ∀ j k, fitsL h j k = false := fun j k => by
    cases f : fitsL h j k with
    | false => rfl
    | true =>
      exfalso
      have two : ∀ (l : List Int) (b : Int), stl b l → ∀ i, l.getD i 0 ≤ 1 ∧ 0 ≤ l.getD i 0 ∧ (0 < l.getD i 0 → i + 1 < l.length → l.getD (i + 1) 0 = 0) := by
        intro l
        induction l with
        | nil => intro b _ i; simp
        | cons c t ih =>
          intro b hb i
          obtain ⟨h1, h2, h3, h4⟩ := hb
          cases i with
          | zero =>
            refine ⟨by simpa using h2, by simpa using h1, fun h5 h6 => ?_⟩
            cases t with
            | nil => simp at h6
            | cons d u =>
              obtain ⟨g1, g2, g3, _⟩ := h4
              simp at h5 ⊢; omega
          | succ i =>
            obtain ⟨a1, a2, a3⟩ := ih c h4 i
            refine ⟨by simpa using a1, by simpa using a2, fun h5 h6 => ?_⟩
            have := a3 (by simpa using h5) (by simp at h6; omega)
            simpa using this
      obtain ⟨t1, t2, t3⟩ := two h 0 s.1 k
      unfold fitsL at f
      cases j
      · simp at f; have := f.2; simp at t1; omega
      · simp at f
        have := t3 (by simpa using f.2.1) f.1
        simp at this
        have h9 := f.2.2
        omega
  cases e : mvsOf h with
  | nil => rfl
  | cons m t =>
    obtain ⟨j, k⟩ := m
    have hm : (j, k) ∈ mvsOf h := by rw [e]; exact .head _
    rw [mem_mvs, key] at hm; cases hm
/-! behind a move, with one nought more at the end -/
def doneP (h : List Int) (j : Bool) (k : Nat) : List Int :=
  if j then addAt (addAt (addAt (h ++ [0]) k (-1)) (k + 1) (-1)) (k + 2) 1
  else
    let m := addAt (addAt (h ++ [0]) k (-2)) (k + 1) 1
    if k > 0 then addAt m (k - 2) 1 else m
theorem addAt_app {l : List Int} {k : Nat} {v c : Int} (h : k < l.length) : addAt (l ++ [c]) k v = addAt l k v ++ [c] := by
  unfold addAt
  rw [List.set_append_left _ _ h, List.getD_eq_getElem?_getD, List.getD_eq_getElem?_getD, List.getElem?_append_left h]
theorem doneP_len (h : List Int) (j : Bool) (k : Nat) : (doneP h j k).length = h.length + 1 := by
  unfold doneP
  cases j
  · by_cases c : k > 0 <;> simp [c, addAt_len]
  · simp [addAt_len]
theorem done_P {h : List Int} {j : Bool} {k : Nat} (f : fitsL h j k = true) : doneL h j k = bare (doneP h j k) := by
  unfold doneL
  have hk := fits_lt f
  have e2 : h ++ [0, 0] = (h ++ [0]) ++ [0] := by simp
  have key : doneU h j k = doneP h j k ++ [0] := by
    unfold doneU doneP
    cases j
    · simp only [Bool.false_eq_true, if_false]
      rw [e2, addAt_app (by simp; omega), addAt_app (by rw [addAt_len]; simp; omega)]
      by_cases c1 : k = 1
      · subst c1
        simp only [if_true]
        rw [if_pos (by decide), addAt_app (by rw [addAt_len, addAt_len]; simp)]
      · rw [if_neg c1]
        by_cases c2 : k > 1
        · rw [if_pos c2, if_pos (by omega), addAt_app (by rw [addAt_len, addAt_len]; simp; omega)]
        · rw [if_neg c2, if_neg (by omega)]
    · simp only [if_true]
      have : k + 1 < h.length := by unfold fitsL at f; simp at f; omega
      rw [e2, addAt_app (by simp; omega), addAt_app (by rw [addAt_len]; simp; omega), addAt_app (by rw [addAt_len, addAt_len]; simp; omega)]
  rw [key, bare_snoc, if_pos rfl]
theorem done_heapy {h : List Int} {j : Bool} {k : Nat} (hh : ∀ x ∈ h, 0 ≤ x) (f : fitsL h j k = true) : Heapy (doneL h j k) := ⟨done_nn h j k hh f, bare_bare _⟩
theorem done_len {h : List Int} {j : Bool} {k : Nat} (f : fitsL h j k = true) : (doneL h j k).length ≤ h.length + 1 := by
  rw [done_P f]
  exact Nat.le_trans (bare_len _) (by rw [doneP_len]; exact Nat.le_refl _)
theorem sumW_pos {l : List Int} (h : ∀ x ∈ l, 0 ≤ x) (ne : sumW Fb l ≠ 0) : l ≠ [] := fun z => ne (by rw [z]; rfl)
theorem done_ne {h : List Int} {j : Bool} {k : Nat} (hh : ∀ x ∈ h, 0 ≤ x) (f : fitsL h j k = true) : doneL h j k ≠ [] := by
  intro z
  have h1 := done_sum Fb h j k f
  rw [z, delta_wt] at h1
  have h2 : sumW Fb h = 0 := by have : sumW Fb [] = 0 := rfl; omega
  have hk := fits_lt f
  have h3 : 0 < h.getD k 0 := by
    unfold fitsL at f
    cases j
    · simp at f; have := f.2; simp; omega
    · simp at f; simpa using f.2.1
  have h4 := sumW_set Fb h k 0 hk
  have h5 : 0 ≤ sumW Fb (h.set k 0) := sumW_nonneg _ _ (fun i => Int.le_of_lt (Fb_pos i)) fun x hx => by
    rcases List.mem_or_eq_of_mem_set hx with w | w
    · exact hh x w
    · omega
  have h6 := Fb_pos k
  have h7 : 0 < Fb k * h.getD k 0 := Int.mul_pos h6 h3
  rw [Int.zero_sub, Int.mul_neg] at h4
  omega
end Sh

set_option linter.all false
set_option maxRecDepth 100000
set_option autoImplicit false
namespace Sh
/-! a heap carried: the moves picked one by one -/
/-- the place of the pick -/
def pkI (ps : List Int) (n len : Nat) : Nat := if ps = [] then 0 else (ps.getD (n % ps.length) 0 % (len : Int)).toNat
def goes (ps : List Int) : Nat → List Int → List (Bool × Nat) → List Int → Prop
  | _, h, [], h' => h' = h
  | n, h, m :: ms, h' => (mvsOf h)[pkI ps n (mvsOf h).length]? = some m ∧ goes ps (n + 1) (doneL h m.1 m.2) ms h'
theorem goes_snoc {ps : List Int} : ∀ {ms : List (Bool × Nat)} {n : Nat} {h h1 : List Int} {m : Bool × Nat}, goes ps n h ms h1 → (mvsOf h1)[pkI ps (n + ms.length) (mvsOf h1).length]? = some m → goes ps n h (ms ++ [m]) (doneL h1 m.1 m.2)
  | [], n, h, h1, m, g, e => by
    have g' : h1 = h := g
    subst g'
    exact ⟨e, rfl⟩
  | a :: ms, n, h, h1, m, g, e => by
    refine ⟨g.1, goes_snoc g.2 ?_⟩
    rw [List.length_cons] at e
    rw [show n + 1 + ms.length = n + (ms.length + 1) by omega]; exact e
theorem pk_lt {ps : List Int} {n len : Nat} (h : 0 < len) : pkI ps n len < len := by
  unfold pkI
  by_cases c : ps = []
  · rw [if_pos c]; exact h
  · rw [if_neg c]
    have h1 : 0 ≤ ps.getD (n % ps.length) 0 % (len : Int) := Int.emod_nonneg _ (by omega)
    have h2 : ps.getD (n % ps.length) 0 % (len : Int) < (len : Int) := Int.emod_lt_of_pos _ (by omega)
    omega
theorem at_fit {h : List Int} {i : Nat} {m : Bool × Nat} (e : (mvsOf h)[i]? = some m) : fitsL h m.1 m.2 = true := mem_mvs.mp (List.mem_of_getElem? e)
theorem goes_heapy {ps : List Int} : ∀ {ms : List (Bool × Nat)} {n : Nat} {h h' : List Int}, Heapy h → goes ps n h ms h' → Heapy h'
  | [], _, _, _, hy, g => by rw [show _ = _ from g]; exact hy
  | _ :: _, _, _, _, hy, g => goes_heapy (done_heapy hy.1 (at_fit g.1)) g.2
theorem goes_wt {ps : List Int} : ∀ {ms : List (Bool × Nat)} {n : Nat} {h h' : List Int}, goes ps n h ms h' → sumW Fb h' = sumW Fb h
  | [], _, _, _, g => by rw [show _ = _ from g]
  | m :: _, _, h, _, g => by
    rw [goes_wt g.2, done_sum Fb _ _ _ (at_fit g.1), delta_wt, Int.add_zero]
theorem goes_bnd {ps : List Int} : ∀ {ms : List (Bool × Nat)} {n : Nat} {h h' : List Int}, goes ps n h ms h' → (ms.length : Int) + sumW bnd h' ≤ sumW bnd h
  | [], _, _, _, g => by rw [show _ = _ from g]; simp
  | m :: ms, _, h, _, g => by
    have h1 := goes_bnd g.2
    rw [done_sum bnd _ _ _ (at_fit g.1)] at h1
    have h2 := delta_bnd m.1 m.2
    rw [List.length_cons]
    omega
/-- one shell fewer -/
def few (m : Bool × Nat) : Int := if m.1 = true ∨ m.2 = 0 then 1 else 0
theorem goes_few {ps : List Int} : ∀ {ms : List (Bool × Nat)} {n : Nat} {h h' : List Int}, goes ps n h ms h' → h.sum - h'.sum = (ms.map few).sum
  | [], _, _, _, g => by rw [show _ = _ from g]; simp
  | m :: ms, _, h, h', g => by
    have h1 := goes_few g.2
    rw [sum_sum (doneL h m.1 m.2), done_sum (fun _ => 1) _ _ _ (at_fit g.1), delta_one] at h1
    rw [List.map_cons, List.sum_cons, ← h1, sum_sum h]
    unfold few
    by_cases c : m.1 = true ∨ m.2 = 0
    · rw [if_pos c, if_pos c]; omega
    · rw [if_neg c, if_neg c]; omega
theorem goes_len {ps : List Int} : ∀ {ms : List (Bool × Nat)} {n : Nat} {h h' : List Int}, goes ps n h ms h' → h'.length ≤ h.length + ms.length
  | [], _, _, _, g => by rw [show _ = _ from g]; simp
  | m :: ms, _, h, h', g => by
    have h1 := goes_len g.2
    have h2 := done_len (at_fit g.1)
    rw [List.length_cons]
    omega
theorem goes_max {ps : List Int} {ms : List (Bool × Nat)} {n : Nat} {h h' : List Int} (hy : Heapy h) (g : goes ps n h ms h') : (ms.length : Int) ≤ sumW bnd h := by
  have h1 := goes_bnd g
  have h2 := sumW_nonneg bnd h' bnd_nonneg (goes_heapy hy g).1
  omega
theorem done_less {h : List Int} {m : Bool × Nat} (hn : ∀ x ∈ h, 0 ≤ x) (f : fitsL h m.1 m.2 = true) : (sumW bnd (doneL h m.1 m.2)).toNat < (sumW bnd h).toNat := by
  have h1 := done_sum bnd _ _ _ f
  have h2 := delta_bnd m.1 m.2
  have h3 := sumW_nonneg bnd _ bnd_nonneg (done_nn h m.1 m.2 hn f)
  omega
theorem still_goes {ps : List Int} {ms : List (Bool × Nat)} {n : Nat} {h h' : List Int} (s : Still h) (g : goes ps n h ms h') : ms = [] ∧ h' = h := by
  cases ms with
  | nil => exact ⟨rfl, g⟩
  | cons m t =>
    have := g.1
    rw [still_none s] at this
    cases this
end Sh

set_option linter.all false
namespace Sh
/-! ### texts: codes, 111 the o, 46 the dot -/
def bit (c : Nat) : Int := if c = 111 then 1 else 0
def code (x : Int) : Nat := if x = 1 then 111 else 46
def enc (r : List Int) : List Nat := r.map code
/-- numbers told, the bits behind the last end -/
abbrev Rs := List Int × List Int
def stp (p : Rs) (c : Nat) : Rs := if c = 111 ∧ lst 0 p.2 = 1 then (p.1 ++ [wt p.2], []) else (p.1, p.2 ++ [bit c])
def rdF (p : Rs) (t : List Nat) : Rs := t.foldl stp p
theorem rdF_nil (p : Rs) : rdF p [] = p := rfl
theorem rdF_cons (p : Rs) (c : Nat) (t : List Nat) : rdF p (c :: t) = rdF (stp p c) t := rfl
theorem rdF_app (p : Rs) (s t : List Nat) : rdF p (s ++ t) = rdF (rdF p s) t := by unfold rdF; rw [List.foldl_append]
theorem stp_pre (ns ms r : List Int) (c : Nat) : stp (ns ++ ms, r) c = (ns ++ (stp (ms, r) c).1, (stp (ms, r) c).2) := by
  unfold stp
  by_cases h : c = 111 ∧ lst 0 r = 1
  · rw [if_pos h, if_pos h]; simp
  · rw [if_neg h, if_neg h]
theorem rdF_pre : ∀ (t : List Nat) (ns ms r : List Int), rdF (ns ++ ms, r) t = (ns ++ (rdF (ms, r) t).1, (rdF (ms, r) t).2)
  | [], _, _, _ => rfl
  | c :: t, ns, ms, r => by
    rw [rdF_cons, rdF_cons, stp_pre]
    exact rdF_pre t ns (stp (ms, r) c).1 (stp (ms, r) c).2
theorem rdF_of (t : List Nat) (ns r : List Int) : rdF (ns, r) t = (ns ++ (rdF ([], r) t).1, (rdF ([], r) t).2) := by
  have := rdF_pre t ns [] r; rwa [List.append_nil] at this
/-- the bits behind the last end are still -/
theorem stp_stl {p : Rs} (c : Nat) (h : stl 0 p.2) : stl 0 (stp p c).2 := by
  unfold stp
  by_cases e : c = 111 ∧ lst 0 p.2 = 1
  · rw [if_pos e]; trivial
  · rw [if_neg e]
    refine (stl_snoc 0 p.2 (bit c)).mpr ⟨h, ?_, ?_, ?_⟩
    · unfold bit; split <;> omega
    · unfold bit; split <;> omega
    · unfold bit
      split
      · rename_i hc
        have h2 : lst 0 p.2 ≠ 1 := fun z => e ⟨hc, z⟩
        rcases snoc_cases p.2 with e1 | ⟨m, x, e1⟩
        · rw [e1]; show (1 : Int) + 0 ≤ 1; omega
        · rw [e1, lst_snoc] at h2 ⊢
          rw [e1] at h
          have := (stl_snoc 0 m x).mp h
          omega
      · rcases snoc_cases p.2 with e1 | ⟨m, x, e1⟩
        · rw [e1]; show (0 : Int) + 0 ≤ 1; omega
        · rw [e1, lst_snoc]
          rw [e1] at h
          have := (stl_snoc 0 m x).mp h
          omega
theorem rdF_stl : ∀ (t : List Nat) (p : Rs), stl 0 p.2 → stl 0 (rdF p t).2
  | [], _, h => h
  | c :: t, p, h => rdF_stl t (stp p c) (stp_stl c h)
theorem bit_code {x : Int} (h : x = 0 ∨ x = 1) : bit (code x) = x := by
  rcases h with rfl | rfl <;> rfl
/-- a still row's signs are kept -/
theorem rdF_enc : ∀ (n : Nat) (r : List Int), r.length = n → stl 0 r → ∀ ns, rdF (ns, []) (enc r) = (ns, r) := by
  intro n
  induction n with
  | zero => intro r hr _ ns; rw [List.length_eq_zero_iff.mp hr]; rfl
  | succ n ih =>
    intro r hr hs ns
    rcases snoc_cases r with rfl | ⟨m, c, rfl⟩
    · simp at hr
    · have hm := (stl_snoc 0 m c).mp hs
      have e : enc (m ++ [c]) = enc m ++ [code c] := by unfold enc; simp
      rw [e, rdF_app, ih m (by simpa using hr) hm.1 ns]
      show stp (ns, m) (code c) = _
      have hc : c = 0 ∨ c = 1 := by omega
      unfold stp
      rw [if_neg, bit_code hc]
      rintro ⟨h1, h2⟩
      have : c = 1 := by
        rcases hc with rfl | rfl
        · exact absurd h1 (by decide)
        · rfl
      have h2' : lst 0 m = 1 := h2
      omega
/-- the text of a number -/
noncomputable def txt (n : Int) : List Nat := enc (zrow n) ++ [111]
theorem zrow_ne {n : Int} (h : 1 ≤ n) : zrow n ≠ [] := fun e => by
  have := (zrow_ok (n := n) (by omega)).2
  rw [e, wt_nil] at this; omega
theorem rdF_txt {n : Int} (h : 1 ≤ n) (ns : List Int) : rdF (ns, []) (txt n) = (ns ++ [n], []) := by
  have z := zrow_ok (n := n) (by omega)
  unfold txt
  rw [rdF_app, rdF_enc _ _ rfl z.1.1]
  show stp (ns, zrow n) 111 = _
  unfold stp
  have hl : lst 0 (zrow n) = 1 := z.1.2.resolve_left (zrow_ne h)
  rw [if_pos ⟨rfl, hl⟩, z.2]
noncomputable def txts : List Int → List Nat
  | [] => []
  | n :: t => txt n ++ txts t
theorem txts_app (a b : List Int) : txts (a ++ b) = txts a ++ txts b := by
  induction a with
  | nil => rfl
  | cons x t ih => show txt x ++ txts (t ++ b) = txt x ++ txts t ++ txts b; rw [ih, List.append_assoc]
theorem rdF_txts : ∀ (ms ns : List Int), (∀ n ∈ ms, 1 ≤ n) → rdF (ns, []) (txts ms) = (ns ++ ms, [])
  | [], ns, _ => by rw [List.append_nil]; rfl
  | m :: ms, ns, h => by
    show rdF (ns, []) (txt m ++ txts ms) = _
    rw [rdF_app, rdF_txt (h m List.mem_cons_self), rdF_txts ms _ fun n hn => h n (List.mem_cons_of_mem _ hn)]
    simp
/-- behind .oo a reader is in step -/
theorem rdF_sync (p : Rs) : ∃ n, rdF p [46, 111, 111] = (p.1 ++ [n], []) := by
  have e1 : stp p 46 = (p.1, p.2 ++ [0]) := by unfold stp; rw [if_neg (fun z => absurd z.1 (by decide))]; rfl
  have e2 : stp (p.1, p.2 ++ [0]) 111 = (p.1, p.2 ++ [0] ++ [1]) := by
    unfold stp; rw [if_neg (fun z => absurd (z.2.symm.trans (lst_snoc 0 p.2 0)) (by decide))]; rfl
  have e3 : stp (p.1, p.2 ++ [0] ++ [1]) 111 = (p.1 ++ [wt (p.2 ++ [0] ++ [1])], []) := by
    unfold stp; rw [if_pos ⟨rfl, lst_snoc 0 (p.2 ++ [0]) 1⟩]
  refine ⟨wt (p.2 ++ [0] ++ [1]), ?_⟩
  rw [rdF_cons, e1, rdF_cons, e2, rdF_cons, e3, rdF_nil]
/-- read from a place that is an end, the last numbers come -/
theorem rdF_rest {t u : List Nat} {ns : List Int} {ks : List Int} (h : rdF ([], []) (t ++ u) = (ns, [])) (k : rdF ([], []) t = (ks, [])) : rdF ([], []) u = (ns.drop ks.length, []) := by
  rw [rdF_app, k, rdF_of] at h
  have h1 := congrArg Prod.fst h
  have h2 := congrArg Prod.snd h
  dsimp only at h1 h2
  refine Prod.ext ?_ h2
  show (rdF ([], []) u).1 = ns.drop ks.length
  rw [← h1, List.drop_append]; simp
end Sh

set_option linter.all false
set_option maxRecDepth 100000
set_option autoImplicit false
namespace Sh
/-! ### reading sign by sign: numbers told, the signs behind the last end -/
abbrev Rc := List Int × List Nat
def stC (p : Rc) (c : Nat) : Rc := if c = 111 ∧ p.2.getLast? = some 111 then (p.1 ++ [wt (p.2.map bit)], []) else (p.1, p.2 ++ [c])
def rdC (p : Rc) (t : List Nat) : Rc := t.foldl stC p
theorem rdC_nil (p : Rc) : rdC p [] = p := rfl
theorem rdC_cons (p : Rc) (c : Nat) (t : List Nat) : rdC p (c :: t) = rdC (stC p c) t := rfl
theorem rdC_app (p : Rc) (s t : List Nat) : rdC p (s ++ t) = rdC (rdC p s) t := by unfold rdC; rw [List.foldl_append]
theorem rdC_snoc (p : Rc) (s : List Nat) (c : Nat) : rdC p (s ++ [c]) = stC (rdC p s) c := by rw [rdC_app]; rfl
theorem stC_pre (ns ms : List Int) (r : List Nat) (c : Nat) : stC (ns ++ ms, r) c = (ns ++ (stC (ms, r) c).1, (stC (ms, r) c).2) := by
  unfold stC
  by_cases h : c = 111 ∧ r.getLast? = some 111
  · rw [if_pos h, if_pos h]; simp
  · rw [if_neg h, if_neg h]
theorem rdC_pre : ∀ (t : List Nat) (ns ms : List Int) (r : List Nat), rdC (ns ++ ms, r) t = (ns ++ (rdC (ms, r) t).1, (rdC (ms, r) t).2)
  | [], _, _, _ => rfl
  | c :: t, ns, ms, r => by
    rw [rdC_cons, rdC_cons, stC_pre]
    exact rdC_pre t ns (stC (ms, r) c).1 (stC (ms, r) c).2
theorem rdC_of (t : List Nat) (ns : List Int) (r : List Nat) : rdC (ns, r) t = (ns ++ (rdC ([], r) t).1, (rdC ([], r) t).2) := by
  have := rdC_pre t ns [] r; rwa [List.append_nil] at this
/-- the same reading by bits -/
theorem last_bit (r : List Nat) : lst 0 (r.map bit) = 1 ↔ r.getLast? = some 111 := by
  rcases List.eq_nil_or_concat r with rfl | ⟨m, c, rfl⟩
  · simp [lst]
  · rw [List.concat_eq_append, List.map_append, List.map_singleton, lst_snoc, List.getLast?_concat]
    unfold bit
    by_cases h : c = 111
    · simp [h]
    · simp [h]
theorem stC_F (p : Rc) (c : Nat) : stp (p.1, p.2.map bit) c = ((stC p c).1, (stC p c).2.map bit) := by
  unfold stp stC
  by_cases h : c = 111 ∧ p.2.getLast? = some 111
  · rw [if_pos h, if_pos ⟨h.1, (last_bit p.2).mpr h.2⟩]; rfl
  · rw [if_neg h, if_neg (fun z => h ⟨z.1, (last_bit p.2).mp z.2⟩)]; simp
theorem rdC_F : ∀ (t : List Nat) (p : Rc), rdF (p.1, p.2.map bit) t = ((rdC p t).1, (rdC p t).2.map bit)
  | [], _ => rfl
  | c :: t, p => by
    rw [rdF_cons, rdC_cons, stC_F]; exact rdC_F t (stC p c)
theorem rdC_txts {ms : List Int} (h : ∀ n ∈ ms, 1 ≤ n) : rdC ([], []) (txts ms) = (ms, []) := by
  have h1 := rdC_F (txts ms) ([], [])
  have h2 := rdF_txts ms [] h
  have h3 : rdF (([], []) : Rs) (txts ms) = ((rdC ([], []) (txts ms)).1, (rdC ([], []) (txts ms)).2.map bit) := h1
  rw [h2] at h3
  have e1 := congrArg Prod.fst h3
  have e2 := congrArg Prod.snd h3
  refine Prod.ext ?_ ?_
  · show _ = ms
    rw [← e1]; simp
  · have : (rdC ([], []) (txts ms)).2.map bit = [] := e2.symm
    exact List.map_eq_nil_iff.mp this
/-- no two o one behind the other -/
def noOO (t : List Nat) : Prop := ∀ i, t[i]? = some 111 → t[i + 1]? ≠ some 111
theorem noOO_pre {m : List Nat} {c : Nat} (h : noOO (m ++ [c])) : noOO m := fun i h1 h2 => by
  have l1 := (List.getElem?_eq_some_iff.mp h1).1
  have l2 := (List.getElem?_eq_some_iff.mp h2).1
  exact h i (by rw [List.getElem?_append_left l1]; exact h1) (by rw [List.getElem?_append_left l2]; exact h2)
theorem noOO_last {m : List Nat} {c : Nat} (h : noOO (m ++ [c])) : ¬ (c = 111 ∧ m.getLast? = some 111) := by
  rintro ⟨rfl, h2⟩
  rcases List.eq_nil_or_concat m with rfl | ⟨u, d, rfl⟩
  · simp at h2
  · rw [List.concat_eq_append] at h h2
    rw [List.getLast?_concat] at h2
    cases h2
    refine h u.length ?_ ?_
    · rw [List.append_assoc, List.getElem?_append_right (Nat.le_refl _)]; simp
    · rw [List.append_assoc, List.getElem?_append_right (by omega)]; simp
theorem rdC_no : ∀ (n : Nat) (t : List Nat), t.length = n → noOO t → ∀ ns : List Int, rdC (ns, []) t = (ns, t) := by
  intro n
  induction n with
  | zero => intro t h _ ns; rw [List.length_eq_zero_iff.mp h]; rfl
  | succ n ih =>
    intro t h hn ns
    rcases List.eq_nil_or_concat t with rfl | ⟨m, c, rfl⟩
    · simp at h
    · rw [List.concat_eq_append] at h hn ⊢
      rw [rdC_snoc, ih m (by simpa using h) (noOO_pre hn) ns]
      unfold stC
      rw [if_neg (noOO_last hn)]
/-- first place of oo from b on -/
def ooAt (l : List Nat) (i : Nat) : Prop := l[i]? = some 111 ∧ l[i + 1]? = some 111
theorem rdC_found {l : List Nat} {b k : Nat} {ns : List Int} (h0 : rdC ([], []) (l.take b) = (ns, [])) (hbk : b ≤ k) (hk : ooAt l k) (hf : ∀ i, b ≤ i → i < k → ¬ ooAt l i) :
    rdC ([], []) (l.take (k + 2)) = (ns ++ [wt (((l.take (k + 1)).drop b).map bit)], []) := by
  have hl := (List.getElem?_eq_some_iff.mp hk.2).1
  have e1 : l.take (k + 2) = l.take b ++ (((l.take (k + 1)).drop b) ++ [111]) := by
    rw [← List.append_assoc]
    have : l.take b ++ (l.take (k + 1)).drop b = l.take (k + 1) := by
      have h2 := List.take_append_drop b (l.take (k + 1))
      rw [List.take_take, Nat.min_eq_left (by omega)] at h2
      exact h2
    rw [this, List.take_succ, hk.2]; rfl
  have e2 : ∃ u, (l.take (k + 1)).drop b = u ++ [111] := by
    refine ⟨(l.take k).drop b, ?_⟩
    rw [List.take_succ, hk.1, List.drop_append_of_le_length (by rw [List.length_take]; omega)]; rfl
  obtain ⟨u, hu⟩ := e2
  have hno : noOO ((l.take (k + 1)).drop b) := fun i h1 h2 => by
    rw [List.getElem?_drop] at h1 h2
    have l2 := (List.getElem?_eq_some_iff.mp h2).1
    rw [List.length_take] at l2
    rw [List.getElem?_take, if_pos (by omega)] at h1 h2
    exact hf (b + i) (by omega) (by omega) ⟨h1, by rw [show b + i + 1 = b + (i + 1) by omega]; exact h2⟩
  rw [e1, rdC_app, h0, rdC_snoc, rdC_no _ _ rfl hno]
  unfold stC
  rw [if_pos ⟨rfl, by rw [hu]; simp⟩]
theorem rdC_none {l : List Nat} {b : Nat} {ns : List Int} (h0 : rdC ([], []) (l.take b) = (ns, [])) (hf : ∀ i, b ≤ i → ¬ ooAt l i) : rdC ([], []) l = (ns, l.drop b) := by
  have hno : noOO (l.drop b) := fun i h1 h2 => by
    rw [List.getElem?_drop] at h1 h2
    exact hf (b + i) (by omega) ⟨h1, by rw [show b + i + 1 = b + (i + 1) by omega]; exact h2⟩
  have e := List.take_append_drop b l
  have := rdC_app ([], []) (l.take b) (l.drop b)
  rw [e, h0, rdC_no _ _ rfl hno] at this
  exact this
/-- a sign that is neither o nor a dot -/
def Odd (l : List Nat) : Prop := ∃ c ∈ l, c ≠ 111 ∧ c ≠ 46
theorem count_odd : ∀ l : List Nat, (l.count 111 + l.count 46 ≤ l.length) ∧ (l.count 111 + l.count 46 < l.length ↔ Odd l)
  | [] => by simp [Odd]
  | a :: t => by
    obtain ⟨h1, h2⟩ := count_odd t
    have e : Odd (a :: t) ↔ ((a ≠ 111 ∧ a ≠ 46) ∨ Odd t) := by
      unfold Odd
      constructor
      · rintro ⟨c, hc, h⟩
        rcases List.mem_cons.mp hc with rfl | hc
        · exact .inl h
        · exact .inr ⟨c, hc, h⟩
      · rintro (h | ⟨c, hc, h⟩)
        · exact ⟨a, .head _, h⟩
        · exact ⟨c, List.mem_cons_of_mem _ hc, h⟩
    rw [List.count_cons, List.count_cons, List.length_cons, e, ← h2]
    by_cases c1 : a = 111
    · subst c1; simp; omega
    · by_cases c2 : a = 46
      · subst c2; simp; omega
      · simp [c1, c2]; omega
end Sh

set_option linter.all false
set_option maxRecDepth 100000
set_option autoImplicit false
namespace Sh
/-! ### reading in pieces -/
theorem stC_noOO {p : Rc} {c : Nat} (h : noOO p.2) : noOO (stC p c).2 := by
  unfold stC
  split
  · intro i h1; simp at h1
  · rename_i hc
    intro i h1 h2
    have l2 := (List.getElem?_eq_some_iff.mp h2).1
    simp at l2
    by_cases z : i + 1 < p.2.length
    · have h1' : (p.2 ++ [c])[i]? = some 111 := h1
      have h2' : (p.2 ++ [c])[i + 1]? = some 111 := h2
      rw [List.getElem?_append_left (by omega)] at h1'
      rw [List.getElem?_append_left z] at h2'
      exact h i h1' h2'
    · have e : i + 1 = p.2.length := by omega
      have h1' : (p.2 ++ [c])[i]? = some 111 := h1
      have h2' : (p.2 ++ [c])[i + 1]? = some 111 := h2
      rw [List.getElem?_append_left (by omega)] at h1'
      rw [List.getElem?_append_right (by omega), e, Nat.sub_self] at h2'
      refine hc ⟨by simpa using h2', ?_⟩
      rw [List.getLast?_eq_getElem?, ← e]
      exact h1'
theorem rdC_noOO : ∀ (t : List Nat) (p : Rc), noOO p.2 → noOO (rdC p t).2
  | [], _, h => h
  | c :: t, p, h => rdC_noOO t (stC p c) (stC_noOO h)
theorem noOO_nil : noOO [] := fun i h => by simp at h
/-- what the reader tells of a piece: r the signs kept -/
theorem rdC_piece {u v : List Nat} {ns : List Int} {r : List Nat} (h : rdC ([], []) u = (ns, r)) : rdC ([], []) (u ++ v) = (ns ++ (rdC ([], []) (r ++ v)).1, (rdC ([], []) (r ++ v)).2) := by
  have hn : noOO r := by
    have := rdC_noOO u ([], []) noOO_nil
    rw [h] at this; exact this
  rw [rdC_app, h, rdC_of, rdC_app ([], []) r v, rdC_no _ _ rfl hn]
theorem rdC_pref (u v : List Nat) : ∃ a, (rdC ([], []) (u ++ v)).1 = (rdC ([], []) u).1 ++ a := by
  rw [rdC_app]
  refine ⟨(rdC ([], (rdC ([], []) u).2) v).1, ?_⟩
  have := rdC_of v (rdC ([], []) u).1 (rdC ([], []) u).2
  rw [this]
/-- the rest of a text behind a place where nothing is kept -/
theorem rdC_behind {u v : List Nat} {ns ks : List Int} (h : rdC ([], []) (u ++ v) = (ns, [])) (k : rdC ([], []) u = (ks, [])) : rdC ([], []) v = (ns.drop ks.length, []) := by
  have h2 := rdC_piece (v := v) k
  rw [h, List.nil_append] at h2
  have e1 := congrArg Prod.fst h2
  have e2 := congrArg Prod.snd h2
  dsimp only at e1 e2
  refine Prod.ext ?_ e2.symm
  show (rdC ([], []) v).1 = ns.drop ks.length
  rw [e1, List.drop_append]; simp
/-! ends -/
def isEnd (l : List Nat) (i : Nat) : Prop := l[i]? = some 111 ∧ (rdC ([], []) (l.take i)).2.getLast? = some 111
instance (l : List Nat) (i : Nat) : Decidable (isEnd l i) := by unfold isEnd; infer_instance
def endsTo (l : List Nat) : Nat → List Nat
  | 0 => []
  | i + 1 => endsTo l i ++ (if isEnd l i then [i + 1] else [])
theorem take_snoc {l : List Nat} {i c : Nat} (h : l[i]? = some c) : l.take (i + 1) = l.take i ++ [c] := by rw [List.take_succ, h]; rfl
theorem rdC_take {l : List Nat} {i c : Nat} (h : l[i]? = some c) : rdC ([], []) (l.take (i + 1)) = stC (rdC ([], []) (l.take i)) c := by rw [take_snoc h, rdC_snoc]
theorem ends_len (l : List Nat) : ∀ i, i ≤ l.length → (endsTo l i).length = (rdC ([], []) (l.take i)).1.length
  | 0, _ => by simp [endsTo, rdC]
  | i + 1, h => by
    have ih := ends_len l i (by omega)
    have hc : l[i]? = some (l[i]'(by omega)) := List.getElem?_eq_getElem (by omega)
    rw [rdC_take hc]
    show (endsTo l i ++ (if isEnd l i then [i + 1] else [])).length = _
    rw [List.length_append, ih]
    unfold stC
    by_cases e : isEnd l i
    · rw [if_pos e]
      have e' : l[i]'(by omega) = 111 ∧ (rdC ([], []) (l.take i)).2.getLast? = some 111 := ⟨by have := e.1; rw [hc] at this; exact Option.some.inj this, e.2⟩
      rw [if_pos e']; simp
    · rw [if_neg e]
      have e' : ¬ (l[i]'(by omega) = 111 ∧ (rdC ([], []) (l.take i)).2.getLast? = some 111) := fun z => e ⟨by rw [hc, z.1], z.2⟩
      rw [if_neg e']; simp
theorem ends_mem {l : List Nat} : ∀ {n : Nat} {e : Nat}, e ∈ endsTo l n ↔ ∃ i, i < n ∧ isEnd l i ∧ e = i + 1
  | 0, e => by simp [endsTo]
  | n + 1, e => by
    show e ∈ endsTo l n ++ (if isEnd l n then [n + 1] else []) ↔ _
    rw [List.mem_append, ends_mem]
    constructor
    · rintro (⟨i, h1, h2, h3⟩ | h)
      · exact ⟨i, by omega, h2, h3⟩
      · by_cases z : isEnd l n
        · rw [if_pos z] at h
          exact ⟨n, by omega, z, by simpa using h⟩
        · rw [if_neg z] at h; cases h
    · rintro ⟨i, h1, h2, h3⟩
      by_cases z : i < n
      · exact .inl ⟨i, z, h2, h3⟩
      · have : i = n := by omega
        subst this
        right; rw [if_pos h2, h3]; simp
theorem ends_app {l : List Nat} {m : Nat} : ∀ n, m ≤ n → ∃ r, endsTo l n = endsTo l m ++ r ∧ ∀ e ∈ r, m < e
  | 0, h => by
    have : m = 0 := by omega
    subst this
    exact ⟨[], rfl, by simp⟩
  | n + 1, h => by
    by_cases z : m = n + 1
    · subst z; exact ⟨[], by simp, by simp⟩
    · obtain ⟨r, e1, e2⟩ := ends_app (l := l) (m := m) n (by omega)
      refine ⟨r ++ (if isEnd l n then [n + 1] else []), ?_, fun e he => ?_⟩
      · show endsTo l n ++ _ = _
        rw [e1, List.append_assoc]
      · rcases List.mem_append.mp he with w | w
        · exact e2 e w
        · by_cases q : isEnd l n
          · rw [if_pos q] at w
            have : e = n + 1 := by simpa using w
            omega
          · rw [if_neg q] at w; cases w
theorem ends_le {l : List Nat} {n e : Nat} (h : e ∈ endsTo l n) : 1 ≤ e ∧ e ≤ n := by
  obtain ⟨i, h1, _, h2⟩ := ends_mem.mp h
  omega
/-- the place behind the last end up to a place -/
def lastEnd (l : List Nat) (p : Nat) : Nat := (0 :: endsTo l p).getLast (by simp)
theorem kept_at (l : List Nat) : ∀ p, p ≤ l.length → (rdC ([], []) (l.take p)).2 = (l.take p).drop (lastEnd l p) ∧ lastEnd l p ≤ p
  | 0, _ => by simp [rdC, lastEnd, endsTo]
  | p + 1, h => by
    obtain ⟨ih, il⟩ := kept_at l p (by omega)
    have hc : l[p]? = some (l[p]'(by omega)) := List.getElem?_eq_getElem (by omega)
    rw [rdC_take hc]
    unfold stC
    by_cases e : isEnd l p
    · have e' : l[p]'(by omega) = 111 ∧ (rdC ([], []) (l.take p)).2.getLast? = some 111 := ⟨by have := e.1; rw [hc] at this; exact Option.some.inj this, e.2⟩
      rw [if_pos e']
      have hl : lastEnd l (p + 1) = p + 1 := by
        unfold lastEnd
        show (0 :: (endsTo l p ++ (if isEnd l p then [p + 1] else []))).getLast _ = p + 1
        simp only [if_pos e]
        rw [List.getLast_cons (by simp), List.getLast_append_of_ne_nil _ (by simp)]; rfl
      rw [hl]
      refine ⟨?_, Nat.le_refl _⟩
      show [] = _
      rw [List.drop_eq_nil_of_le (by rw [List.length_take]; omega)]
    · have e' : ¬ (l[p]'(by omega) = 111 ∧ (rdC ([], []) (l.take p)).2.getLast? = some 111) := fun z => e ⟨by rw [hc, z.1], z.2⟩
      rw [if_neg e']
      have hl : lastEnd l (p + 1) = lastEnd l p := by
        unfold lastEnd
        have : endsTo l (p + 1) = endsTo l p := by
          show endsTo l p ++ (if isEnd l p then [p + 1] else []) = _
          rw [if_neg e, List.append_nil]
        simp only [this]
      rw [hl]
      refine ⟨?_, by omega⟩
      show (rdC ([], []) (l.take p)).2 ++ [l[p]'(by omega)] = _
      rw [ih, take_snoc hc, List.drop_append_of_le_length (by rw [List.length_take]; omega)]
/-- behind .oo nothing is kept -/
theorem sync_at {l : List Nat} {k : Nat} (h0 : l[k]? = some 46) (h1 : l[k + 1]? = some 111) (h2 : l[k + 2]? = some 111) : (rdC ([], []) (l.take (k + 3))).2 = [] := by
  rw [rdC_take h2, rdC_take h1, rdC_take h0]
  have e1 : stC (rdC ([], []) (l.take k)) 46 = ((rdC ([], []) (l.take k)).1, (rdC ([], []) (l.take k)).2 ++ [46]) := by
    unfold stC; rw [if_neg (fun z => absurd z.1 (by decide))]
  rw [e1]
  have e2 : stC ((rdC ([], []) (l.take k)).1, (rdC ([], []) (l.take k)).2 ++ [46]) 111 = ((rdC ([], []) (l.take k)).1, (rdC ([], []) (l.take k)).2 ++ [46] ++ [111]) := by
    unfold stC; rw [if_neg (fun z => absurd z.2 (by rw [List.getLast?_concat]; decide))]
  rw [e2]
  unfold stC
  rw [if_pos ⟨rfl, by rw [List.getLast?_concat]⟩]
/-! ### a text cut into pieces -/
theorem take_cat (l : List Nat) (p m : Nat) : l.take p ++ (l.take (p + m)).drop p = l.take (p + m) := by
  have h := List.take_append_drop p (l.take (p + m))
  rw [List.take_take, Nat.min_eq_left (by omega)] at h
  exact h
theorem flat_take {ps : List (List Nat)} {l : List Nat} (h : ps.flatten = l) (i : Nat) : (ps.take i).flatten = l.take (ps.take i).flatten.length ∧ (ps.take i).flatten.length ≤ l.length := by
  have e : (ps.take i).flatten ++ (ps.drop i).flatten = l := by rw [← List.flatten_append, List.take_append_drop, h]
  rw [← e]
  refine ⟨by simp, by simp⟩
theorem flat_next {ps : List (List Nat)} {i : Nat} {v : List Nat} (h : ps[i]? = some v) : (ps.take (i + 1)).flatten = (ps.take i).flatten ++ v := by
  rw [List.take_succ, h, List.flatten_append]; simp
theorem flat_all {ps : List (List Nat)} {l : List Nat} (h : ps.flatten = l) {i : Nat} (hi : ps.length ≤ i) : (ps.take i).flatten = l := by
  rw [List.take_of_length_le hi, h]
theorem not_odd_piece {ps : List (List Nat)} {l v : List Nat} (h : ps.flatten = l) (ho : ¬ Odd l) (hv : v ∈ ps) : ¬ Odd v := fun ⟨c, hc, hn⟩ => ho ⟨c, by rw [← h]; exact List.mem_flatten.mpr ⟨v, hv, hc⟩, hn⟩
theorem not_odd_drop {l : List Nat} (n : Nat) (ho : ¬ Odd l) : ¬ Odd (l.drop n) := fun ⟨c, hc, hn⟩ => ho ⟨c, List.mem_of_mem_drop hc, hn⟩
theorem ends_all (l : List Nat) : (endsTo l l.length).length = (rdC ([], []) l).1.length := by
  have := ends_len l l.length (Nat.le_refl _)
  rwa [List.take_length] at this
theorem ends_below {l : List Nat} {p : Nat} (hp : p ≤ l.length) : (endsTo l p).length ≤ (endsTo l l.length).length := by
  obtain ⟨r, e, _⟩ := ends_app (l := l) (m := p) l.length hp
  rw [e, List.length_append]; omega
theorem ends_in {l : List Nat} {p j : Nat} (hp : p ≤ l.length) (hj : j < (endsTo l p).length) : ∃ e, (endsTo l l.length)[j]? = some e ∧ e ≤ p := by
  obtain ⟨r, e, _⟩ := ends_app (l := l) (m := p) l.length hp
  rw [e, List.getElem?_append_left hj, List.getElem?_eq_getElem hj]
  exact ⟨_, rfl, (ends_le (List.getElem_mem hj)).2⟩
theorem ends_out {l : List Nat} {p e : Nat} (hp : p ≤ l.length) (h : (endsTo l l.length)[(endsTo l p).length]? = some e) : p < e := by
  obtain ⟨r, e1, e2⟩ := ends_app (l := l) (m := p) l.length hp
  rw [e1, List.getElem?_append_right (Nat.le_refl _), Nat.sub_self] at h
  exact e2 e (List.mem_of_getElem? h)
theorem ends_last {l : List Nat} {p : Nat} (hp : p ≤ l.length) : (0 :: endsTo l l.length)[(endsTo l p).length]? = some (lastEnd l p) := by
  obtain ⟨r, e1, _⟩ := ends_app (l := l) (m := p) l.length hp
  have : (0 :: endsTo l l.length) = (0 :: endsTo l p) ++ r := by rw [e1]; rfl
  rw [this, List.getElem?_append_left (by simp)]
  unfold lastEnd
  rw [List.getLast_eq_getElem, List.getElem?_eq_getElem (by simp)]
  simp
theorem ends_filter {l : List Nat} {d : Nat} (hd : d ≤ l.length) : ((endsTo l l.length).filter fun e => decide (d < e)).length + (endsTo l d).length = (endsTo l l.length).length := by
  obtain ⟨r, e1, e2⟩ := ends_app (l := l) (m := d) l.length hd
  rw [e1, List.filter_append]
  have h1 : (endsTo l d).filter (fun e => decide (d < e)) = [] := by
    rw [List.filter_eq_nil_iff]
    intro e he
    have := (ends_le he).2
    simp; omega
  have h2 : r.filter (fun e => decide (d < e)) = r := by
    rw [List.filter_eq_self]
    intro e he
    exact decide_eq_true (e2 e he)
  rw [h1, h2, List.nil_append, List.length_append]; omega
/-- the numbers told of a piece are the numbers from the many told before to the many told then -/
theorem told_part {l u v : List Nat} {ms : List Int} (h : (rdC ([], []) l).1 = ms) {w : List Nat} (hl : u ++ v ++ w = l) :
    (ms.take (rdC ([], []) (u ++ v)).1.length).drop (rdC ([], []) u).1.length = (rdC ([], []) ((rdC ([], []) u).2 ++ v)).1 := by
  obtain ⟨a, ha⟩ := rdC_pref (u ++ v) w
  rw [hl, h] at ha
  rw [ha, List.take_left]
  have h2 := rdC_piece (u := u) (v := v) (ns := (rdC ([], []) u).1) (r := (rdC ([], []) u).2) rfl
  rw [h2]
  simp
theorem flat_split {ps : List (List Nat)} {l : List Nat} (h : ps.flatten = l) (i : Nat) : ∃ w, (ps.take i).flatten ++ w = l := ⟨(ps.drop i).flatten, by rw [← List.flatten_append, List.take_append_drop, h]⟩
theorem kept_len (u : List Nat) : (rdC ([], []) u).2.length ≤ u.length := by
  have := (kept_at u u.length (Nat.le_refl _)).1
  rw [List.take_length] at this
  rw [this, List.length_drop]; omega
end Sh

set_option maxHeartbeats 0
set_option exponentiation.threshold 3000
namespace My
open PySem L2 Sh
local macro_rules | `(tactic| walk_at "S") => `(tactic| (repeat (first
  | with_reducible apply r_seq
  | with_reducible apply r_asg
  | ((with_reducible apply r_var); exact rfl)
  | with_reducible apply r_c
  | with_reducible apply r_gname
  | with_reducible apply r_op
  | with_reducible apply r_I0
  | with_reducible apply r_bl
  | with_reducible apply r_test
  | with_reducible apply r_tB
  | with_reducible apply r_if
  | with_reducible apply r_ret
  | with_reducible apply r_retN
  | with_reducible apply r_drop
  | with_reducible apply r_cb
  | with_reducible apply r_cons
  | with_reducible apply r_nil
  | with_reducible apply r_lst
  | with_reducible apply r_tup
  | with_reducible apply r_and
  | with_reducible apply r_or
  | with_reducible apply r_not
  | with_reducible apply r_andV
  | with_reducible apply r_orV
  | with_reducible apply r_notV
  | with_reducible apply r_call
  | with_reducible apply r_bm
  | with_reducible apply r_bm0
  | with_reducible apply r_sl
  | with_reducible apply r_part
  | with_reducible apply r_nopart
  | with_reducible apply r_exI
  | with_reducible apply r_gsub
  | with_reducible apply r_next
  | with_reducible apply r_comp
  | with_reducible apply r_irev
  | with_reducible apply r_rev
  | with_reducible apply r_izip
  | with_reducible apply r_par
  | ((with_reducible apply r_eq); exact rfl)
  | ((with_reducible apply r_ne); exact rfl)
  | with_reducible apply r_min
  | with_reducible apply r_max
  | with_reducible apply r_abs
  | with_reducible apply r_intB
  | with_reducible apply r_intI
  | ((with_reducible apply r_aug); exact rfl)
  | with_reducible apply r_ipI
  | with_reducible apply r_augS
  | with_reducible apply r_tru
  | with_reducible apply r_chain
  | with_reducible apply r_lrev
  | with_reducible apply r_un
  | with_reducible apply r_ifE
  | with_reducible apply r_jrev
  | with_reducible apply r_fld
  | with_reducible apply r_sfld
  | with_reducible apply r_meth
  | with_reducible apply r_make
  | with_reducible apply r_U
  | ((with_reducible apply r_len); first | assumption | exact SqL.of (by assumption)))))
def top (i : Nat) : Stmt := PySem.Challenge.pw_shellstair_k12_whole_in_pieces.main.body.getD i (.Pass ⟨0, 0, 0, 0⟩)
abbrev st_worths : Stmt := top 6
abbrev st_has_row : Stmt := top 10
abbrev st_has_other_sign : Stmt := top 15
abbrev st_Reader_init : Stmt := inClass (top 17) 0
abbrev st_Reader_left : Stmt := inClass (top 17) 2
abbrev st_in_step : Stmt := top 19
abbrev st_law_cell : Stmt := top 21
abbrev st_law_whole : Stmt := top 22
abbrev st_law_ends : Stmt := top 24
abbrev st_law_pieces : Stmt := top 25
abbrev st_law_behind : Stmt := top 29
abbrev st_weight : Stmt := top 7
abbrev st_still_heap : Stmt := top 9
abbrev st_law_alike : Stmt := top 23
abbrev st_law_in_step : Stmt := top 30
abbrev st_row_of : Stmt := top 11
abbrev st_weight_of_signs : Stmt := top 16
abbrev st_law_held : Stmt := top 28
abbrev st_shown : Stmt := top 13
abbrev st_Reader_feed : Stmt := inClass (top 17) 1
abbrev st_written : Stmt := top 14
abbrev st_read : Stmt := top 18
abbrev st_law_refused : Stmt := top 26
abbrev st_law_fed : Stmt := top 27
abbrev st_law_stepped : Stmt := top 31
abbrev st_law : Stmt := top 32
structure Txt (K : PySem.W.Frag) (mg : Str → Option Value) (f_worths f_has_row f_has_other_sign f_Reader_init f_Reader_left f_in_step f_law_cell f_law_whole f_law_ends f_law_pieces f_law_behind f_weight f_still_heap f_law_alike f_law_in_step f_row_of f_weight_of_signs f_law_held f_shown f_Reader_feed f_written f_read f_law_refused f_law_fed f_law_stepped f_law c_StairError c_NoNumber c_NoSign c_NoEnd c_Reader : Addr) (d_worths d_has_row d_has_other_sign d_Reader_init d_Reader_left d_in_step d_law_cell d_law_whole d_law_ends d_law_pieces d_law_behind d_weight d_still_heap d_law_alike d_law_in_step d_row_of d_weight_of_signs d_law_held d_shown d_Reader_feed d_written d_read d_law_refused d_law_fed d_law_stepped d_law : FuncData) : Prop where
  m_StairError : mg "StairError" = some (.ref c_StairError)
  m_NoNumber : mg "NoNumber" = some (.ref c_NoNumber)
  m_NoSign : mg "NoSign" = some (.ref c_NoSign)
  m_NoEnd : mg "NoEnd" = some (.ref c_NoEnd)
  m_Reader : mg "Reader" = some (.ref c_Reader)
  F_worths : Fun K "worths" "worths" st_worths f_worths d_worths
  b_worths : Binds K d_worths ["count"] []
  m_worths : mg "worths" = some (.ref f_worths)
  F_has_row : Fun K "has_row" "has_row" st_has_row f_has_row d_has_row
  b_has_row : Binds K d_has_row ["number"] []
  m_has_row : mg "has_row" = some (.ref f_has_row)
  F_has_other_sign : Fun K "has_other_sign" "has_other_sign" st_has_other_sign f_has_other_sign d_has_other_sign
  b_has_other_sign : Binds K d_has_other_sign ["text"] []
  m_has_other_sign : mg "has_other_sign" = some (.ref f_has_other_sign)
  F_Reader_init : Fun K "__init__" "Reader.__init__" st_Reader_init f_Reader_init d_Reader_init
  b_Reader_init : Binds K d_Reader_init ["self"] []
  m_Reader_init : Mk K c_Reader f_Reader_init
  F_Reader_left : Fun K "left" "Reader.left" st_Reader_left f_Reader_left d_Reader_left
  b_Reader_left : Binds K d_Reader_left ["self"] []
  m_Reader_left : Meth K c_Reader "left" f_Reader_left
  F_in_step : Fun K "in_step" "in_step" st_in_step f_in_step d_in_step
  b_in_step : Binds K d_in_step ["text", "place"] []
  m_in_step : mg "in_step" = some (.ref f_in_step)
  F_law_cell : Fun K "_law_cell" "_law_cell" st_law_cell f_law_cell d_law_cell
  b_law_cell : Binds K d_law_cell ["_law_script", "_law_k"] []
  m_law_cell : mg "_law_cell" = some (.ref f_law_cell)
  F_law_whole : Fun K "_law_whole" "_law_whole" st_law_whole f_law_whole d_law_whole
  b_law_whole : Binds K d_law_whole ["_law_found"] []
  m_law_whole : mg "_law_whole" = some (.ref f_law_whole)
  F_law_ends : Fun K "_law_ends" "_law_ends" st_law_ends f_law_ends d_law_ends
  b_law_ends : Binds K d_law_ends ["_law_text"] []
  m_law_ends : mg "_law_ends" = some (.ref f_law_ends)
  F_law_pieces : Fun K "_law_pieces" "_law_pieces" st_law_pieces f_law_pieces d_law_pieces
  b_law_pieces : Binds K d_law_pieces ["_law_script", "_law_text"] []
  m_law_pieces : mg "_law_pieces" = some (.ref f_law_pieces)
  F_law_behind : Fun K "_law_behind" "_law_behind" st_law_behind f_law_behind d_law_behind
  b_law_behind : Binds K d_law_behind ["_law_text", "_law_place"] []
  m_law_behind : mg "_law_behind" = some (.ref f_law_behind)
  F_weight : Fun K "weight" "weight" st_weight f_weight d_weight
  b_weight : Binds K d_weight ["heap"] []
  m_weight : mg "weight" = some (.ref f_weight)
  F_still_heap : Fun K "still_heap" "still_heap" st_still_heap f_still_heap d_still_heap
  b_still_heap : Binds K d_still_heap ["total"] []
  m_still_heap : mg "still_heap" = some (.ref f_still_heap)
  F_law_alike : Fun K "_law_alike" "_law_alike" st_law_alike f_law_alike d_law_alike
  b_law_alike : Binds K d_law_alike ["_law_found", "_law_due"] []
  m_law_alike : mg "_law_alike" = some (.ref f_law_alike)
  F_law_in_step : Fun K "_law_in_step" "_law_in_step" st_law_in_step f_law_in_step d_law_in_step
  b_law_in_step : Binds K d_law_in_step ["_law_text", "_law_place"] []
  m_law_in_step : mg "_law_in_step" = some (.ref f_law_in_step)
  F_row_of : Fun K "row_of" "row_of" st_row_of f_row_of d_row_of
  b_row_of : Binds K d_row_of ["number"] []
  m_row_of : mg "row_of" = some (.ref f_row_of)
  F_weight_of_signs : Fun K "weight_of_signs" "weight_of_signs" st_weight_of_signs f_weight_of_signs d_weight_of_signs
  b_weight_of_signs : Binds K d_weight_of_signs ["signs"] []
  m_weight_of_signs : mg "weight_of_signs" = some (.ref f_weight_of_signs)
  F_law_held : Fun K "_law_held" "_law_held" st_law_held f_law_held d_law_held
  b_law_held : Binds K d_law_held ["_law_held_here", "_law_numbers"] []
  m_law_held : mg "_law_held" = some (.ref f_law_held)
  F_shown : Fun K "shown" "shown" st_shown f_shown d_shown
  b_shown : Binds K d_shown ["number"] []
  m_shown : mg "shown" = some (.ref f_shown)
  F_Reader_feed : Fun K "feed" "Reader.feed" st_Reader_feed f_Reader_feed d_Reader_feed
  b_Reader_feed : Binds K d_Reader_feed ["self", "piece"] []
  m_Reader_feed : Meth K c_Reader "feed" f_Reader_feed
  F_written : Fun K "written" "written" st_written f_written d_written
  b_written : Binds K d_written ["numbers"] []
  m_written : mg "written" = some (.ref f_written)
  F_read : Fun K "read" "read" st_read f_read d_read
  b_read : Binds K d_read ["text"] []
  m_read : mg "read" = some (.ref f_read)
  F_law_refused : Fun K "_law_refused" "_law_refused" st_law_refused f_law_refused d_law_refused
  b_law_refused : Binds K d_law_refused ["_law_reader", "_law_piece", "_law_script"] []
  m_law_refused : mg "_law_refused" = some (.ref f_law_refused)
  F_law_fed : Fun K "_law_fed" "_law_fed" st_law_fed f_law_fed d_law_fed
  b_law_fed : Binds K d_law_fed ["_law_script", "_law_text", "_law_numbers"] []
  m_law_fed : mg "_law_fed" = some (.ref f_law_fed)
  F_law_stepped : Fun K "_law_stepped" "_law_stepped" st_law_stepped f_law_stepped d_law_stepped
  b_law_stepped : Binds K d_law_stepped ["_law_text", "_law_numbers", "_law_place"] []
  m_law_stepped : mg "_law_stepped" = some (.ref f_law_stepped)
  F_law : Fun K "law" "law" st_law f_law d_law
  b_law : Binds K d_law ["_law_script"] []
  m_law : mg "law" = some (.ref f_law)
  z_ValueError : mg "ValueError" = none
  z_bool : mg "bool" = none
  z_int : mg "int" = none
  z_isinstance : mg "isinstance" = none
  z_len : mg "len" = none
  z_list : mg "list" = none
  z_min : mg "min" = none
  z_range : mg "range" = none
  z_reversed : mg "reversed" = none
  z_str : mg "str" = none
  z_sum : mg "sum" = none
  z_zip : mg "zip" = none
  cl_Reader : Cls K c_Reader
  n_Reader_kept : NoAttr K c_Reader "kept"
  i_ii : PySem.W.kitOne K (.type "int") (.type "int") = some true
  i_ib : PySem.W.kitOne K (.type "int") (.type "bool") = some false
  i_bb : PySem.W.kitOne K (.type "bool") (.type "bool") = some true
  i_ll : PySem.W.kitOne K (.type "list") (.type "list") = some true
  i_tt : PySem.W.kitOne K (.type "tuple") (.type "tuple") = some true
  i_ss : PySem.W.kitOne K (.type "str") (.type "str") = some true
  q_NoNumber : PySem.W.excIn K c_NoNumber [.type "ValueError", .type "Exception", .type "BaseException", .type "object"] "ValueError.__new__" = true
  q_NoSign : PySem.W.excIn K c_NoSign [.type "ValueError", .type "Exception", .type "BaseException", .type "object"] "ValueError.__new__" = true
  q_NoEnd : PySem.W.excIn K c_NoEnd [.type "ValueError", .type "Exception", .type "BaseException", .type "object"] "ValueError.__new__" = true
  i_bi : PySem.W.kitOne K (.type "bool") (.type "int") = some true
  i_ni : PySem.W.kitOne K (.type "NoneType") (.type "int") = some false
  i_si : PySem.W.kitOne K (.type "str") (.type "int") = some false
  i_li : PySem.W.kitOne K (.type "list") (.type "int") = some false
  x_S2 : PySem.W.exmAny K (.ref c_NoSign) [.ref c_NoEnd, .ref c_NoNumber] = some false
  x_SS : PySem.W.exmAny K (.ref c_NoSign) [.ref c_NoSign] = some true
  k_SE : PySem.W.kitOne K (.ref c_NoSign) (.ref c_StairError) = some true
  e1_NoSign : PySem.W.isClsIn K c_NoSign = true
  e2_NoSign : PySem.W.findIn K (.ref c_NoSign) "__getattribute__" = some (some (.builtin "BaseException.__getattribute__"))
  e3_NoSign : PySem.W.findIn K (.ref c_NoSign) "__getattr__" = some none
  e4_NoSign : PySem.W.findIn K (.ref c_NoSign) "__class__" = some (some (.builtin "object.__class__"))
  e5_NoSign : PySem.W.mroIn K c_NoSign (.type "object") = some true
  e6_NoSign : PySem.W.mroIn K c_NoSign (.type "BaseException") = some true
theorem sc_worths : FnScope ["count", "told", "here", "above", "step", "after"] ["count"] (defScope st_worths) := ⟨rfl, rfl, rfl, by decide +kernel, rfl, by decide +kernel, by decide +kernel⟩
theorem sc_has_row : FnScope ["number"] ["number"] (defScope st_has_row) := ⟨rfl, rfl, rfl, by decide +kernel, rfl, by decide +kernel, by decide +kernel⟩
theorem sc_has_other_sign : FnScope ["text"] ["text"] (defScope st_has_other_sign) := ⟨rfl, rfl, rfl, by decide +kernel, rfl, by decide +kernel, by decide +kernel⟩
theorem sc_Reader_init : FnScope ["self"] ["self"] (defScope st_Reader_init) := ⟨rfl, rfl, rfl, by decide +kernel, rfl, by decide +kernel, by decide +kernel⟩
theorem sc_Reader_left : FnScope ["self"] ["self"] (defScope st_Reader_left) := ⟨rfl, rfl, rfl, by decide +kernel, rfl, by decide +kernel, by decide +kernel⟩
theorem sc_in_step : FnScope ["text", "place", "found"] ["text", "place"] (defScope st_in_step) := ⟨rfl, rfl, rfl, by decide +kernel, rfl, by decide +kernel, by decide +kernel⟩
theorem sc_law_cell : FnScope ["_law_script", "_law_k"] ["_law_script", "_law_k"] (defScope st_law_cell) := ⟨rfl, rfl, rfl, by decide +kernel, rfl, by decide +kernel, by decide +kernel⟩
theorem sc_law_whole : FnScope ["_law_found"] ["_law_found"] (defScope st_law_whole) := ⟨rfl, rfl, rfl, by decide +kernel, rfl, by decide +kernel, by decide +kernel⟩
theorem sc_law_ends : FnScope ["_law_text", "_law_ends_here", "_law_full", "_law_at"] ["_law_text"] (defScope st_law_ends) := ⟨rfl, rfl, rfl, by decide +kernel, rfl, by decide +kernel, by decide +kernel⟩
theorem sc_law_pieces : FnScope ["_law_script", "_law_text", "_law_pieces_here", "_law_place", "_law_cell_here", "_law_many"] ["_law_script", "_law_text"] (defScope st_law_pieces) := ⟨rfl, rfl, rfl, by decide +kernel, rfl, by decide +kernel, by decide +kernel⟩
theorem sc_law_behind : FnScope ["_law_text", "_law_place", "_law_due", "_law_at"] ["_law_text", "_law_place"] (defScope st_law_behind) := ⟨rfl, rfl, rfl, by decide +kernel, rfl, by decide +kernel, by decide +kernel⟩
theorem sc_weight : FnScope ["heap"] ["heap"] (defScope st_weight) := ⟨rfl, rfl, rfl, by decide +kernel, rfl, by decide +kernel, by decide +kernel⟩
theorem sc_still_heap : FnScope ["total", "from_top", "rest", "value"] ["total"] (defScope st_still_heap) := ⟨rfl, rfl, rfl, by decide +kernel, rfl, by decide +kernel, by decide +kernel⟩
theorem sc_law_alike : FnScope ["_law_found", "_law_due", "_law_k"] ["_law_found", "_law_due"] (defScope st_law_alike) := ⟨rfl, rfl, rfl, by decide +kernel, rfl, by decide +kernel, by decide +kernel⟩
theorem sc_law_in_step : FnScope ["_law_text", "_law_place", "_law_due", "_law_found"] ["_law_text", "_law_place"] (defScope st_law_in_step) := ⟨rfl, rfl, rfl, by decide +kernel, rfl, by decide +kernel, by decide +kernel⟩
theorem sc_row_of : FnScope ["number"] ["number"] (defScope st_row_of) := ⟨rfl, rfl, rfl, by decide +kernel, rfl, by decide +kernel, by decide +kernel⟩
theorem sc_weight_of_signs : FnScope ["signs"] ["signs"] (defScope st_weight_of_signs) := ⟨rfl, rfl, rfl, by decide +kernel, rfl, by decide +kernel, by decide +kernel⟩
theorem sc_law_held : FnScope ["_law_held_here", "_law_numbers", "_law_told", "_law_k"] ["_law_held_here", "_law_numbers"] (defScope st_law_held) := ⟨rfl, rfl, rfl, by decide +kernel, rfl, by decide +kernel, by decide +kernel⟩
theorem sc_shown : FnScope ["number", "row"] ["number"] (defScope st_shown) := ⟨rfl, rfl, rfl, by decide +kernel, rfl, by decide +kernel, by decide +kernel⟩
theorem sc_Reader_feed : FnScope ["self", "piece", "text", "numbers", "begin", "end"] ["self", "piece"] (defScope st_Reader_feed) := ⟨rfl, rfl, rfl, by decide +kernel, rfl, by decide +kernel, by decide +kernel⟩
theorem sc_written : FnScope ["numbers"] ["numbers"] (defScope st_written) := ⟨rfl, rfl, rfl, by decide +kernel, rfl, by decide +kernel, by decide +kernel⟩
theorem sc_read : FnScope ["text", "reader", "numbers"] ["text"] (defScope st_read) := ⟨rfl, rfl, rfl, by decide +kernel, rfl, by decide +kernel, by decide +kernel⟩
theorem sc_law_refused : FnScope ["_law_reader", "_law_piece", "_law_script", "_law_place", "_law_sign", "_law_ahead", "e"] ["_law_reader", "_law_piece", "_law_script"] (defScope st_law_refused) := ⟨rfl, rfl, rfl, by decide +kernel, rfl, by decide +kernel, by decide +kernel⟩
theorem sc_law_fed : FnScope ["_law_script", "_law_text", "_law_numbers", "_law_reader", "_law_ends_here", "_law_pieces_here", "_law_odd", "_law_held_here", "_law_place", "_law_many", "_law_k", "_law_first", "_law_told", "_law_left", "_law_again"] ["_law_script", "_law_text", "_law_numbers"] (defScope st_law_fed) := ⟨rfl, rfl, rfl, by decide +kernel, rfl, by decide +kernel, by decide +kernel⟩
theorem sc_law_stepped : FnScope ["_law_text", "_law_numbers", "_law_place", "_law_due", "_law_many"] ["_law_text", "_law_numbers", "_law_place"] (defScope st_law_stepped) := ⟨rfl, rfl, rfl, by decide +kernel, rfl, by decide +kernel, by decide +kernel⟩
theorem sc_law : FnScope ["_law_script", "_law_size", "_law_numbers", "_law_turned", "_law_text", "_law_held_here", "_law_other", "_law_place", "_law_loose"] ["_law_script"] (defScope st_law) := ⟨rfl, rfl, rfl, by decide +kernel, rfl, by decide +kernel, by decide +kernel⟩
/-- the last item -/
theorem last_at {l : List Int} {c : Int} : (l ++ [c]).getD (((((l ++ [c]).map V.int).length : Int) - 1).toNat) 0 = c := by
  have : ((((l ++ [c]).map V.int).length : Int) - 1).toNat = l.length := by simp
  rw [this, List.getD_eq_getElem?_getD]; simp
theorem small2 {n : Nat} (h : n ≤ 100000) : n < sizeLine := Nat.lt_of_le_of_lt h (by decide)
theorem snocE (l : List Int) : l = [] ∨ ∃ m c, l = m ++ [c] := snoc_cases l

def wl (n : Nat) : List Int := (List.range n).map Fb
theorem wl_len (n : Nat) : (wl n).length = n := by unfold wl; simp
theorem wl_succ (n : Nat) : wl (n + 1) = wl n ++ [Fb n] := by unfold wl; rw [List.range_succ]; simp
theorem wl_at (n i : Nat) (h : i < n) : (wl n)[i]? = some (Fb i) := by unfold wl; rw [List.getElem?_map, List.getElem?_range h]; rfl
theorem steps_le {n : Int} {i : Nat} (hn : n < 2 ^ 700) (h : i = 0 ∨ Fb (i - 1) ≤ n) : i ≤ 1401 := by
  by_cases c : i ≤ 1401
  · exact c
  · have h1 := pow_Fb 700
    have h2 := Fb_mono (m := 2 * 700) (n := i - 1) (by omega)
    rcases h with h | h
    · omega
    · have := Int.lt_of_le_of_lt (Int.le_trans (Int.le_trans h1 h2) h) hn
      exact absurd this (Int.lt_irrefl _)
theorem zk_succ (m : Nat) (n : Int) : zk (m + 1) n = if Fb m ≤ n then zk m (n - Fb m) ++ [1] else zk m n ++ [0] := rfl
theorem rev_at {i j : Nat} {x : V} (h : ((wl i).map V.int).reverse[j]? = some x) : j < i ∧ x = .int (Fb (i - 1 - j)) := by
  have hj : j < i := by
    have := (List.getElem?_eq_some_iff.mp h).1
    simpa [wl_len] using this
  rw [List.getElem?_reverse (by simpa [wl_len] using hj), List.getElem?_map, List.length_map, wl_len, wl_at _ _ (by omega)] at h
  exact ⟨hj, by simpa using h.symm⟩
theorem bitsC {x : Int} (h0 : 0 ≤ x) (h1 : x ≤ 10 ^ 60) : x.natAbs < 2 ^ 200 := nat_abs_lt h0 (Int.lt_of_le_of_lt h1 (by decide))
theorem wt_take_succ {ns : List Int} {i : Nat} (h : i < ns.length) : wt (ns.take (i + 1)) = wt (ns.take i) + ns.getD i 0 * Fb i := by
  rw [List.take_succ, List.getElem?_eq_getElem h]
  show wt (ns.take i ++ [ns[i]]) = _
  rw [wt_snoc, List.length_take, Nat.min_eq_left (Nat.le_of_lt h), List.getD_eq_getElem?_getD, List.getElem?_eq_getElem h]; rfl
theorem sumW_take (f : Nat → Int) {l : List Int} {i : Nat} (h : i < l.length) : sumW f (l.take (i + 1)) = sumW f (l.take i) + f i * l.getD i 0 := by
  rw [List.take_succ, List.getElem?_eq_getElem h]
  show sumW f (l.take i ++ [l[i]]) = _
  rw [sumW_append, List.length_take, Nat.min_eq_left (Nat.le_of_lt h), List.getD_eq_getElem?_getD, List.getElem?_eq_getElem h]
  show _ + (f (0 + i) * l[i] + 0) = _
  rw [Nat.zero_add, Int.add_zero]; rfl
theorem getD_in {l : List Int} {i : Nat} (h : i < l.length) : l.getD i 0 ∈ l := by
  rw [List.getD_eq_getElem?_getD, List.getElem?_eq_getElem h]; exact List.getElem_mem h
theorem sum_wt : ∀ (ns : List Int) (n : Nat), n = ns.length → ((List.range n).map fun i => ns.getD i 0 * Fb i).sum = wt ns := by
  intro ns n hn
  have : ∀ k, k ≤ ns.length → ((List.range k).map fun i => ns.getD i 0 * Fb i).sum = wt (ns.take k) := by
    intro k
    induction k with
    | zero => intro _; rw [List.take_zero]; rfl
    | succ k ih =>
      intro hk
      rw [List.range_succ, List.map_append, List.sum_append, ih (by omega), wt_take_succ (by omega)]; simp
  rw [hn, this _ (Nat.le_refl _), List.take_length]
theorem intBits_lt (n : Int) (h : 0 ≤ n) : n < 2 ^ (Builtin.Int.intBits n) := by
  have h1 : n.natAbs < 2 ^ (Builtin.Int.intBits n) := intBits_le_iff.mp (Nat.le_refl _)
  have h2 : (n.natAbs : Int) = n := Int.natAbs_of_nonneg h
  have h3 : ((n.natAbs : Nat) : Int) < ((2 ^ (Builtin.Int.intBits n) : Nat) : Int) := Int.ofNat_lt.mpr h1
  rw [h2] at h3
  simpa using h3
theorem intBits_700 {n : Int} (h0 : 0 ≤ n) (h : n < 2 ^ 700) : Builtin.Int.intBits n ≤ 700 := intBits_le_iff.mpr (nat_abs_lt h0 h)
/-- no number at all -/
def Thing (H : Hp) (x : V) : Prop := (∃ b, x = .bl b) ∨ x = .non ∨ (∃ z, x = .str z) ∨ ∃ a xs, x = .ref a ∧ H a = some (.lst xs)
def Num (n : Int) : Prop := 0 ≤ n ∧ n < 10 ^ 60
theorem p60 : (10 : Int) ^ 60 < 2 ^ 700 := by decide +kernel
/-- no number that has a text -/
def Bad (H : Hp) (x : V) : Prop := (∃ n : Int, x = .int n ∧ ¬ (1 ≤ n ∧ n < 10 ^ 60)) ∨ Thing H x
theorem Thing.same {H H' : Hp} {x : V} (h : Thing H x) (g : Same H H') : Thing H' x := by
  rcases h with h | h | h | ⟨a, xs, e, h⟩
  · exact .inl h
  · exact .inr (.inl h)
  · exact .inr (.inr (.inl h))
  · exact .inr (.inr (.inr ⟨a, xs, e, g _ _ h⟩))
theorem Bad.same {H H' : Hp} {x : V} (h : Bad H x) (g : Same H H') : Bad H' x := by
  rcases h with h | h
  · exact .inl h
  · exact .inr (h.same g)
theorem zrow_len {n : Int} (h0 : 0 ≤ n) (h : n < 10 ^ 60) : (zrow n).length ≤ 1401 := by
  refine steps_le (Int.lt_trans h p60) ?_
  by_cases c : zrow n = []
  · exact .inl (by rw [c]; rfl)
  · right
    have := still_low (zrow_ok h0).1 c
    rw [(zrow_ok h0).2] at this
    exact this
theorem enc_len (r : List Int) : (enc r).length = r.length := by unfold enc; simp
theorem txt_len {n : Int} (h0 : 0 ≤ n) (h : n < 10 ^ 60) : (txt n).length ≤ 1402 := by
  unfold txt
  rw [List.length_append, enc_len]
  have := zrow_len h0 h
  simp; omega
theorem txts_flat : ∀ ns : List Int, (ns.map txt).flatten = txts ns
  | [] => rfl
  | n :: t => by
    rw [List.map_cons, List.flatten_cons, txts_flat t]; rfl
theorem txts_len : ∀ {ns : List Int}, (∀ n ∈ ns, 1 ≤ n ∧ n < 10 ^ 60) → (txts ns).length ≤ 1402 * ns.length
  | [], _ => by simp [txts]
  | n :: t, h => by
    have h1 := txt_len (n := n) (by have := (h n (.head _)).1; omega) (h n (.head _)).2
    have h2 := txts_len (ns := t) fun m hm => h m (List.mem_cons_of_mem _ hm)
    show (txt n ++ txts t).length ≤ _
    rw [List.length_append, List.length_cons]
    omega
theorem zrow_zero : zrow 0 = [] := by
  have z := zrow_ok (n := 0) (by decide)
  by_cases c : zrow 0 = []
  · exact c
  · have := still_low z.1 c
    rw [z.2] at this
    have := Fb_pos ((zrow 0).length - 1)
    omega
theorem zrow_01 {n : Int} (h : 0 ≤ n) : ∀ x ∈ zrow n, x = 0 ∨ x = 1 := fun x hx => stl_mem (zrow_ok h).1.1 x hx
theorem sgn_snoc (l : List Nat) (c : Nat) : (l ++ [c]).map (fun c => V.str (tx [c])) = l.map (fun c => V.str (tx [c])) ++ [V.str (tx [c])] := by simp
theorem flat_one : ∀ l : List Nat, (l.map fun c => [c]).flatten = l
  | [] => rfl
  | c :: t => by rw [List.map_cons, List.flatten_cons, flat_one t]; rfl
theorem tx_oo : (Str.ofString "oo") = tx [111, 111] := by decide +kernel
/-- a reader stands at p and keeps the signs r -/
def Rdr (C : Addr) (H : Hp) (p : Addr) (r : List Nat) : Prop := ∃ dx, H p = some (.ins C dx [("kept", .str (tx r))])
theorem put_kept (y z : V) : putF "kept" y ([("kept", z)] : List (Str × V)) = ([("kept", y)] : List (Str × V)) := by
  unfold putF; rw [if_pos rfl]
theorem look_no {m : Str} (v : V) (h : (m == ("kept" : Str)) = false) : List.lookup m ([("kept", v)] : List (Str × V)) = none := by
  rw [List.lookup_cons, h]; rfl
/-- all but p is as it was -/
def Kp (p : Addr) (H H' : Hp) : Prop := ∀ b o, H b = some o → b ≠ p → H' b = some o
theorem Kp.of {p : Addr} {H H' : Hp} (g : Same H H') : Kp p H H' := fun b o e _ => g b o e
theorem Kp.trans {p : Addr} {H H1 H2 : Hp} (a : Kp p H H1) (b : Kp p H1 H2) : Kp p H H2 := fun c o e n => b c o (a c o e n) n
theorem Kp.upd {p : Addr} {H : Hp} {o : HO} : Kp p H (upd H p o) := fun c o e n => by rw [upd_ne n]; exact e
theorem Rdr.same {C p : Addr} {H H' : Hp} {r : List Nat} (h : Rdr C H p r) (g : Same H H') : Rdr C H' p r := by
  obtain ⟨dx, e⟩ := h; exact ⟨dx, g _ _ e⟩
theorem find_range (f : Nat → Bool) : ∀ n b : Nat, match (List.range' b n).find? f with | some k => b ≤ k ∧ k < b + n ∧ f k = true ∧ ∀ i, b ≤ i → i < k → f i = false | none => ∀ i, b ≤ i → i < b + n → f i = false
  | 0, b => by
    show ∀ i, b ≤ i → i < b + 0 → f i = false
    intro i h1 h2; omega
  | n + 1, b => by
    rw [List.range'_succ, List.find?_cons]
    have ih := find_range f n (b + 1)
    cases hb : f b with
    | true => exact ⟨Nat.le_refl _, by omega, hb, fun i h1 h2 => by omega⟩
    | false =>
      show match (List.range' (b + 1) n).find? f with | some k => b ≤ k ∧ k < b + (n + 1) ∧ f k = true ∧ ∀ i, b ≤ i → i < k → f i = false | none => ∀ i, b ≤ i → i < b + (n + 1) → f i = false
      cases e : (List.range' (b + 1) n).find? f with
      | some k =>
        rw [e] at ih
        obtain ⟨h1, h2, h3, h4⟩ := ih
        refine ⟨by omega, by omega, h3, fun i h5 h6 => ?_⟩
        by_cases z : i = b
        · rw [z]; exact hb
        · exact h4 i (by omega) h6
      | none =>
        rw [e] at ih
        intro i h5 h6
        by_cases z : i = b
        · rw [z]; exact hb
        · exact ih i (by omega) (by omega)
theorem hasAt_oo (l : List Nat) (i : Nat) : hasAt l [111, 111] i = true ↔ ooAt l i := by
  unfold hasAt ooAt
  rw [Bool.and_eq_true, decide_eq_true_eq, decide_eq_true_eq]
  constructor
  · rintro ⟨h1, h2⟩
    have e0 := congrArg (fun x : List Nat => x[0]?) h2
    have e1 := congrArg (fun x : List Nat => x[1]?) h2
    simp at e0 e1
    exact ⟨e0, e1⟩
  · rintro ⟨h1, h2⟩
    have hl := (List.getElem?_eq_some_iff.mp h2).1
    refine ⟨by simp; omega, ?_⟩
    rw [List.drop_eq_getElem_cons (by omega), List.drop_eq_getElem_cons hl]
    have a1 : l[i] = 111 := by rw [List.getElem?_eq_getElem (by omega)] at h1; exact Option.some.inj h1
    have a2 : l[i + 1] = 111 := by rw [List.getElem?_eq_getElem hl] at h2; exact Option.some.inj h2
    rw [a1, a2]; rfl
theorem find_oo (l : List Nat) (b : Nat) : (findN l [111, 111] b = -1 ∧ ∀ i, b ≤ i → ¬ ooAt l i) ∨ ∃ k : Nat, findN l [111, 111] b = (k : Int) ∧ b ≤ k ∧ ooAt l k ∧ ∀ i, b ≤ i → i < k → ¬ ooAt l i := by
  have h := find_range (hasAt l [111, 111]) (l.length + 1 - b) b
  unfold findN
  cases e : (List.range' b (l.length + 1 - b)).find? (hasAt l [111, 111]) with
  | some k =>
    rw [e] at h
    obtain ⟨h1, h2, h3, h4⟩ := h
    exact .inr ⟨k, rfl, h1, (hasAt_oo l k).mp h3, fun i h5 h6 z => by have := h4 i h5 h6; rw [(hasAt_oo l i).mpr z] at this; cases this⟩
  | none =>
    rw [e] at h
    refine .inl ⟨rfl, fun i h5 z => ?_⟩
    have hl := (List.getElem?_eq_some_iff.mp z.2).1
    have := h i h5 (by omega)
    rw [(hasAt_oo l i).mpr z] at this; cases this
theorem str_tx (s : Str) : s = tx s.cps.toList := by cases s; simp [tx]
theorem str_len (s : Str) : s.cps.toList.length = s.length := by simp [Str.length]
theorem rdC_cnt : ∀ (t : List Nat) (p : Rc), (rdC p t).1.length ≤ p.1.length + t.length
  | [], p => by rw [rdC_nil]; simp
  | c :: t, p => by
    have ih := rdC_cnt t (stC p c)
    rw [rdC_cons, List.length_cons]
    have : (stC p c).1.length ≤ p.1.length + 1 := by
      unfold stC
      split
      · simp
      · simp
    omega
theorem odd_dec (l : List Nat) : Odd l ∨ ¬ Odd l := Classical.em _

theorem at_ok {α : Type} {l : List α} {k : Int} (h0 : 0 ≤ k) (h1 : k < (l.length : Int)) : ∃ x, atI l k = some x ∧ x ∈ l := by
  obtain ⟨n, rfl⟩ : ∃ n : Nat, k = n := ⟨k.toNat, by omega⟩
  have hn : n < l.length := by omega
  exact ⟨l[n], atI_nat (List.getElem?_eq_getElem hn), List.getElem_mem hn⟩
theorem tx_doo : (Str.ofString ".oo") = tx [46, 111, 111] := by decide +kernel
theorem tx_ne_o {c : Nat} : (V.str (tx [c]) = V.str "o") ↔ c = 111 := by
  rw [tx_o]
  exact ⟨fun z => by have := tx_inj (V.str.inj z); simpa using this, fun z => by rw [z]⟩
theorem findN_step (l u : List Nat) (b : Nat) (hb : b ≤ l.length) : findN l u b = if hasAt l u b = true then (b : Int) else findN l u (b + 1) := by
  unfold findN
  rw [show l.length + 1 - b = (l.length + 1 - (b + 1)) + 1 by omega, List.range'_succ, List.find?_cons]
  cases h : hasAt l u b with
  | true => rfl
  | false => rfl
theorem findN_far (l u : List Nat) (b : Nat) (hb : l.length < b + u.length) : findN l u b = -1 := by
  unfold findN
  have : (List.range' b (l.length + 1 - b)).find? (hasAt l u) = none := by
    rw [List.find?_eq_none]
    intro i hi
    have := (List.mem_range'_1.mp hi).1
    unfold hasAt
    rw [decide_eq_false (by omega)]
    simp
  rw [this]
theorem findN_cases (l u : List Nat) (b : Nat) : findN l u b = -1 ∨ ∃ k : Nat, findN l u b = (k : Int) ∧ b ≤ k ∧ hasAt l u k = true := by
  have h := find_range (hasAt l u) (l.length + 1 - b) b
  unfold findN
  cases e : (List.range' b (l.length + 1 - b)).find? (hasAt l u) with
  | some k =>
    rw [e] at h
    exact .inr ⟨k, rfl, h.1, h.2.2.1⟩
  | none => exact .inl rfl
/-- what in_step tells -/
def stepV (l : List Nat) (b : Nat) : V := if findN l [46, 111, 111] b < 0 then .non else .int (findN l [46, 111, 111] b + 3)
theorem eight_sign {x : V} (hm : x ∈ [V.str "O", .str "0", .str " ", .str ",", .str "\n", .str "x", .str ":", .str "1"]) : ∃ c : Nat, x = .str (tx [c]) ∧ c ≠ 111 ∧ c ≠ 46 := by
  simp only [List.mem_cons, List.not_mem_nil, or_false] at hm
  rcases hm with rfl | rfl | rfl | rfl | rfl | rfl | rfl | rfl
  · exact ⟨79, congrArg V.str (by decide +kernel), by decide, by decide⟩
  · exact ⟨48, congrArg V.str (by decide +kernel), by decide, by decide⟩
  · exact ⟨32, congrArg V.str (by decide +kernel), by decide, by decide⟩
  · exact ⟨44, congrArg V.str (by decide +kernel), by decide, by decide⟩
  · exact ⟨10, congrArg V.str (by decide +kernel), by decide, by decide⟩
  · exact ⟨120, congrArg V.str (by decide +kernel), by decide, by decide⟩
  · exact ⟨58, congrArg V.str (by decide +kernel), by decide, by decide⟩
  · exact ⟨49, congrArg V.str (by decide +kernel), by decide, by decide⟩
theorem eight_many {x : V} (hm : x ∈ [V.int 1, .int 0, .int 2, .int 3, .int 5, .int 9, .int 40, .int 300]) : ∃ m : Nat, x = .int (m : Int) := by
  simp only [List.mem_cons, List.not_mem_nil, or_false] at hm
  rcases hm with rfl | rfl | rfl | rfl | rfl | rfl | rfl | rfl
  · exact ⟨1, rfl⟩
  · exact ⟨0, rfl⟩
  · exact ⟨2, rfl⟩
  · exact ⟨3, rfl⟩
  · exact ⟨5, rfl⟩
  · exact ⟨9, rfl⟩
  · exact ⟨40, rfl⟩
  · exact ⟨300, rfl⟩
/-- the lists told, one by one: every third, from the second, has a 7 behind -/
def Hd (H : Hp) (as : List (Addr × List Int)) : Prop := ∀ (k : Nat) (y : Addr × List Int), as[k]? = some y → H y.1 = some (.lst ((if k % 3 = 1 then y.2 ++ [7] else y.2).map V.int))
theorem Hd.same {H H' : Hp} {as : List (Addr × List Int)} (h : Hd H as) (g : Same H H') : Hd H' as := fun k y e => g _ _ (h k y e)
theorem Hd.keep {H H' : Hp} {as : List (Addr × List Int)} (h : Hd H as) (g : ∀ y ∈ as, H' y.1 = H y.1) : Hd H' as := fun k y e => by rw [g y (List.mem_of_getElem? e)]; exact h k y e
theorem Hd.ex {H : Hp} {as : List (Addr × List Int)} (h : Hd H as) {y : Addr × List Int} (m : y ∈ as) : ∃ xs, H y.1 = some (.lst xs) := by
  obtain ⟨k, hk, rfl⟩ := List.getElem_of_mem m
  exact ⟨_, h k _ (List.getElem?_eq_getElem hk)⟩
theorem Hd.snoc {H : Hp} {as : List (Addr × List Int)} (h : Hd H as) {t : Addr} {v : List Int} (e : H t = some (.lst ((if as.length % 3 = 1 then v ++ [7] else v).map V.int))) : Hd H (as ++ [(t, v)]) := fun k y hk => by
  by_cases c : k < as.length
  · rw [List.getElem?_append_left c] at hk; exact h k y hk
  · rw [List.getElem?_append_right (by omega)] at hk
    have z : k - as.length = 0 := by
      have := (List.getElem?_eq_some_iff.mp hk).1
      simp at this; omega
    rw [z] at hk
    have e1 : k = as.length := by omega
    have e2 : y = (t, v) := by simpa using hk.symm
    subst e1; subst e2; exact e
theorem Hd.nil {H : Hp} : Hd H [] := fun k y e => by simp at e
theorem Rdr.ne {C p E : Addr} {H : Hp} {r : List Nat} {xs : List V} (h : Rdr C H p r) (e : H E = some (.lst xs)) : E ≠ p := fun z => by
  subst z; obtain ⟨dx, h⟩ := h; rw [h] at e; cases e
theorem Rdr.upd {C p E : Addr} {H : Hp} {r : List Nat} {o : HO} (h : Rdr C H p r) (n : p ≠ E) : Rdr C (upd H E o) p r := by
  obtain ⟨dx, h⟩ := h; exact ⟨dx, by rw [upd_ne n]; exact h⟩
theorem cut_mid (ms : List Int) (i j : Nat) (hi : i ≤ j) (hj : j ≤ ms.length) : cutV (ms.map V.int) (some (i : Int)) (some (j : Int)) = ((ms.take j).drop i).map V.int := by
  obtain ⟨u, e1, _, e2⟩ := cut_ints ms (some (i : Int)) (some (j : Int))
  rw [e1, e2, HT.sIx_nat, HT.sIx_nat, Nat.min_eq_left hj, Nat.min_eq_left (by omega), List.drop_take]
theorem cut_fromI (ms : List Int) (i : Nat) (hi : i ≤ ms.length) : cutV (ms.map V.int) (some (i : Int)) none = (ms.drop i).map V.int := by
  obtain ⟨u, e1, _, e2⟩ := cut_ints ms (some (i : Int)) none
  rw [e1, e2, HT.sIx_nat, HT.sIx_none, Nat.min_eq_left hi, List.take_of_length_le (by rw [List.length_drop]; omega)]
theorem cut_toI (ms : List Int) (j : Nat) (hj : j ≤ ms.length) : cutV (ms.map V.int) none (some (j : Int)) = (ms.take j).map V.int := by
  obtain ⟨u, e1, _, e2⟩ := cut_ints ms none (some (j : Int))
  rw [e1, e2, HT.sIx_nat, HT.sIx_none, Nat.min_eq_left hj, List.drop_zero, Nat.sub_zero]
theorem doo_at {l : List Nat} {k : Nat} (h : hasAt l [46, 111, 111] k = true) : l[k]? = some 46 ∧ l[k + 1]? = some 111 ∧ l[k + 2]? = some 111 ∧ k + 3 ≤ l.length := by
  unfold hasAt at h
  rw [Bool.and_eq_true, decide_eq_true_eq, decide_eq_true_eq] at h
  obtain ⟨h1, h2⟩ := h
  have e0 := congrArg (fun x : List Nat => x[0]?) h2
  have e1 := congrArg (fun x : List Nat => x[1]?) h2
  have e2 := congrArg (fun x : List Nat => x[2]?) h2
  simp at e0 e1 e2
  exact ⟨e0, e1, e2, h1⟩
section
variable {P : Program} {w : World} {K : PySem.W.Frag} {mg : Str → Option Value} {base : Heap} {f_worths f_has_row f_has_other_sign f_Reader_init f_Reader_left f_in_step f_law_cell f_law_whole f_law_ends f_law_pieces f_law_behind f_weight f_still_heap f_law_alike f_law_in_step f_row_of f_weight_of_signs f_law_held f_shown f_Reader_feed f_written f_read f_law_refused f_law_fed f_law_stepped f_law c_StairError c_NoNumber c_NoSign c_NoEnd c_Reader : Addr} {d_worths d_has_row d_has_other_sign d_Reader_init d_Reader_left d_in_step d_law_cell d_law_whole d_law_ends d_law_pieces d_law_behind d_weight d_still_heap d_law_alike d_law_in_step d_row_of d_weight_of_signs d_law_held d_shown d_Reader_feed d_written d_read d_law_refused d_law_fed d_law_stepped d_law : FuncData}
def sp_worths (K : PySem.W.Frag) : Sp := fun vs H Q _ => ∃ n : Nat, vs = [.int n] ∧ n ≤ 10001 ∧ ∀ (r : Addr) (H' : Hp), Same H H' → H r = none → H' r = some (.lst ((wl n).map V.int)) → Q (.ref r) H'
theorem ok_worths (T : Txt K mg f_worths f_has_row f_has_other_sign f_Reader_init f_Reader_left f_in_step f_law_cell f_law_whole f_law_ends f_law_pieces f_law_behind f_weight f_still_heap f_law_alike f_law_in_step f_row_of f_weight_of_signs f_law_held f_shown f_Reader_feed f_written f_read f_law_refused f_law_fed f_law_stepped f_law c_StairError c_NoNumber c_NoSign c_NoEnd c_Reader d_worths d_has_row d_has_other_sign d_Reader_init d_Reader_left d_in_step d_law_cell d_law_whole d_law_ends d_law_pieces d_law_behind d_weight d_still_heap d_law_alike d_law_in_step d_row_of d_weight_of_signs d_law_held d_shown d_Reader_feed d_written d_read d_law_refused d_law_fed d_law_stepped d_law) : FnOk P w K mg base CX0 1 f_worths d_worths ["count"] (sp_worths K) := by
  refine T.F_worths.ok sc_worths (fun vs H Q E h => by revert h; unfold sp_worths; intro h; first | (obtain ⟨_, rfl, _⟩ := h; rfl) | (obtain ⟨_, _, rfl, _⟩ := h; rfl) | (obtain ⟨_, _, _, rfl, _⟩ := h; rfl) | (obtain ⟨_, _, _, _, rfl, _⟩ := h; rfl) | (obtain ⟨_, _, _, _, _, rfl, _⟩ := h; rfl) | (obtain ⟨_, _, _, _, _, _, rfl, _⟩ := h; rfl) | (obtain ⟨_, _, _, _, _, _, _, rfl, _⟩ := h; rfl) | (obtain ⟨_, _, _, _, _, _, _, _, rfl, _⟩ := h; rfl) | (obtain ⟨_, _, _, _, _, _, _, _, _, rfl, _⟩ := h; rfl) | (obtain ⟨_, _, _, _, _, _, _, _, _, _, rfl, _⟩ := h; rfl)) (fun cdv A outer s H vs Q E hr h => ?_)
  obtain ⟨n, rfl, hn, q⟩ := h
  refine ⟨_, (pss_cons (ps_set (i := 1) sc_worths.nd rfl (Or.inl rfl) (pe_lst pa_nil)) (pss_cons (ps_set (i := 2) sc_worths.nd rfl (Or.inl rfl) pe_int) (pss_cons (ps_set (i := 3) sc_worths.nd rfl (Or.inl rfl) pe_int) (pss_cons (ps_for PassesOwn.never rfl (pi_range1 rfl T.z_range (pa_cons (pv 0) pa_nil)) (pg_name (i := 4) sc_worths.nd rfl (Or.inl rfl)) (pss_cons (ps_expr (pe_bm PySem.F.plainAttrs_list PySem.F.slot_list_append PySem.F.type_list_append mt_append (pv 1) (pa_cons (pv 2) pa_nil))) (pss_cons (ps_set (i := 5) sc_worths.nd rfl (Or.inl rfl) (pe_op op_add (pv 2) (pv 3))) (pss_cons (ps_set (i := 2) sc_worths.nd rfl (Or.inl rfl) (pv 3)) (pss_one (ps_set (i := 3) sc_worths.nd rfl (Or.inl rfl) (pv 5))))))) (pss_one (ps_ret (pv 1))))))), ?_⟩
  walk_at "S"
  refine ⟨Nat.zero_le _, fun r h0 => ?_⟩
  walk_at "S"
  refine ⟨_, rfl, _, rfl, by omega, by omega, for_range (fun i σ H' => ∃ o1 o2, σ = [some (.int n), some (.ref r), some (.int (Fb i)), some (.int (Fb (i + 1))), o1, o2] ∧ Same H H' ∧ H' r = some (.lst ((wl i).map V.int))) ⟨none, none, rfl, same_new h0 _, upd_same⟩ ?_ ?_⟩
  · rintro i σ H1 hi ⟨o1, o2, rfl, g, hr1⟩
    have hi' : i < n := by omega
    walk_at "S"
    refine ⟨ty_lst hr1, ?_⟩
    walk_at "S"
    refine r_append hr1 (by rw [List.length_map, wl_len]; exact Nat.lt_of_lt_of_le hi' (Nat.le_trans hn (by decide))) ?_
    walk_at "S"
    exact ⟨_, _, rfl, g.upd h0 _, by rw [upd_same, wl_succ, List.map_append]; rfl⟩
  · rintro σ H1 ⟨o1, o2, rfl, g, hr1⟩
    walk_at "S"
    exact q r H1 g h0 hr1
def sp_has_row (K : PySem.W.Frag) : Sp := fun vs H Q _ => ∃ x, vs = [x] ∧ ((∃ n : Int, x = .int n ∧ (Num n → Q (.bl true) H) ∧ (¬ Num n → Q (.bl false) H)) ∨ (Thing H x ∧ Q (.bl false) H))
theorem ok_has_row (T : Txt K mg f_worths f_has_row f_has_other_sign f_Reader_init f_Reader_left f_in_step f_law_cell f_law_whole f_law_ends f_law_pieces f_law_behind f_weight f_still_heap f_law_alike f_law_in_step f_row_of f_weight_of_signs f_law_held f_shown f_Reader_feed f_written f_read f_law_refused f_law_fed f_law_stepped f_law c_StairError c_NoNumber c_NoSign c_NoEnd c_Reader d_worths d_has_row d_has_other_sign d_Reader_init d_Reader_left d_in_step d_law_cell d_law_whole d_law_ends d_law_pieces d_law_behind d_weight d_still_heap d_law_alike d_law_in_step d_row_of d_weight_of_signs d_law_held d_shown d_Reader_feed d_written d_read d_law_refused d_law_fed d_law_stepped d_law) : FnOk P w K mg base CX0 1 f_has_row d_has_row ["number"] (sp_has_row K) := by
  refine T.F_has_row.ok sc_has_row (fun vs H Q E h => by revert h; unfold sp_has_row; intro h; first | (obtain ⟨_, rfl, _⟩ := h; rfl) | (obtain ⟨_, _, rfl, _⟩ := h; rfl) | (obtain ⟨_, _, _, rfl, _⟩ := h; rfl) | (obtain ⟨_, _, _, _, rfl, _⟩ := h; rfl) | (obtain ⟨_, _, _, _, _, rfl, _⟩ := h; rfl) | (obtain ⟨_, _, _, _, _, _, rfl, _⟩ := h; rfl) | (obtain ⟨_, _, _, _, _, _, _, rfl, _⟩ := h; rfl) | (obtain ⟨_, _, _, _, _, _, _, _, rfl, _⟩ := h; rfl) | (obtain ⟨_, _, _, _, _, _, _, _, _, rfl, _⟩ := h; rfl) | (obtain ⟨_, _, _, _, _, _, _, _, _, _, rfl, _⟩ := h; rfl)) (fun cdv A outer s H vs Q E hr h => ?_)
  obtain ⟨x, rfl, h⟩ := h
  refine ⟨_, (pss_one (ps_ret (pe_and (pe_callB call_isi rfl T.z_isinstance bt_isinstance (pa_cons (pv 0) (pa_cons (pe_bltn (v := .ty "int") rfl T.z_int bt_int rfl) pa_nil))) (pe_and (pe_not (pe_callB call_isi rfl T.z_isinstance bt_isinstance (pa_cons (pv 0) (pa_cons (pe_bltn (v := .ty "bool") rfl T.z_bool bt_bool rfl) pa_nil)))) (pe_one (pe_chain op_le op_lt pe_int (pv 0) (pe_op op_pow pe_int pe_int))))))), ?_⟩
  rcases h with ⟨n, rfl, q1, q2⟩ | ⟨h, q⟩
  · walk_at "S"
    refine r_isi (.int _) T.i_ii ?_
    walk_at "S"
    refine iteT ?_
    walk_at "S"
    refine r_isi (.int _) T.i_ib ?_
    walk_at "S"
    refine iteT ?_
    walk_at "S"
    refine r_ite (fun c => ?_) (fun c => ?_)
    · walk_at "S"
      refine r_I ⟨by decide, by decide, by decide⟩ ?_
      walk_at "S"
      by_cases c2 : n < (10 : Int) ^ (60 : Int).toNat
      · rw [decide_eq_true c2]; exact q1 ⟨c, c2⟩
      · rw [decide_eq_false c2]; exact q2 fun z => c2 z.2
    · exact q2 fun z => c z.1
  · rcases h with ⟨b, rfl⟩ | rfl | ⟨z, rfl⟩ | ⟨a, xs, rfl, e⟩
    · walk_at "S"
      refine r_isi (.bl _) T.i_bi ?_
      walk_at "S"
      refine iteT ?_
      walk_at "S"
      refine r_isi (.bl _) T.i_bb ?_
      walk_at "S"
      refine iteF ?_
      exact q
    · walk_at "S"
      refine r_isi .non T.i_ni ?_
      walk_at "S"
      refine iteF ?_
      exact q
    · walk_at "S"
      refine r_isi (.str _) T.i_si ?_
      walk_at "S"
      refine iteF ?_
      exact q
    · walk_at "S"
      refine r_isi (.lst e) T.i_li ?_
      walk_at "S"
      refine iteF ?_
      exact q
def sp_has_other_sign (K : PySem.W.Frag) : Sp := fun vs H Q _ => ∃ l : List Nat, vs = [.str (tx l)] ∧ l.length ≤ 100000 ∧ (Odd l → Q (.bl true) H) ∧ (¬ Odd l → Q (.bl false) H)
theorem ok_has_other_sign (T : Txt K mg f_worths f_has_row f_has_other_sign f_Reader_init f_Reader_left f_in_step f_law_cell f_law_whole f_law_ends f_law_pieces f_law_behind f_weight f_still_heap f_law_alike f_law_in_step f_row_of f_weight_of_signs f_law_held f_shown f_Reader_feed f_written f_read f_law_refused f_law_fed f_law_stepped f_law c_StairError c_NoNumber c_NoSign c_NoEnd c_Reader d_worths d_has_row d_has_other_sign d_Reader_init d_Reader_left d_in_step d_law_cell d_law_whole d_law_ends d_law_pieces d_law_behind d_weight d_still_heap d_law_alike d_law_in_step d_row_of d_weight_of_signs d_law_held d_shown d_Reader_feed d_written d_read d_law_refused d_law_fed d_law_stepped d_law) : FnOk P w K mg base CX0 1 f_has_other_sign d_has_other_sign ["text"] (sp_has_other_sign K) := by
  refine T.F_has_other_sign.ok sc_has_other_sign (fun vs H Q E h => by revert h; unfold sp_has_other_sign; intro h; first | (obtain ⟨_, rfl, _⟩ := h; rfl) | (obtain ⟨_, _, rfl, _⟩ := h; rfl) | (obtain ⟨_, _, _, rfl, _⟩ := h; rfl) | (obtain ⟨_, _, _, _, rfl, _⟩ := h; rfl) | (obtain ⟨_, _, _, _, _, rfl, _⟩ := h; rfl) | (obtain ⟨_, _, _, _, _, _, rfl, _⟩ := h; rfl) | (obtain ⟨_, _, _, _, _, _, _, rfl, _⟩ := h; rfl) | (obtain ⟨_, _, _, _, _, _, _, _, rfl, _⟩ := h; rfl) | (obtain ⟨_, _, _, _, _, _, _, _, _, rfl, _⟩ := h; rfl) | (obtain ⟨_, _, _, _, _, _, _, _, _, _, rfl, _⟩ := h; rfl)) (fun cdv A outer s H vs Q E hr h => ?_)
  obtain ⟨l, rfl, hl, q1, q2⟩ := h
  refine ⟨_, (pss_one (ps_ret (pe_cmpR op_lt (pe_op op_add (pe_bm PySem.F.plainAttrs_str PySem.F.slot_str_count PySem.F.type_str_count mt_count (pv 0) (pa_cons pe_str pa_nil)) (pe_bm PySem.F.plainAttrs_str PySem.F.slot_str_count PySem.F.type_str_count mt_count (pv 0) (pa_cons pe_str pa_nil))) (pe_callB c_lenS rfl T.z_len bt_len (pa_cons (pv 0) pa_nil)) (nomark _)))), ?_⟩
  walk_at "S"
  refine ⟨rfl, ?_⟩
  walk_at "S"
  refine ⟨l, 111, rfl, by rw [← tx_o], ?_⟩
  walk_at "S"
  refine ⟨rfl, ?_⟩
  walk_at "S"
  refine ⟨l, 46, rfl, by rw [← tx_d], ?_⟩
  walk_at "S"
  refine r_lenS (by rw [tx_len]; exact Nat.le_of_lt (small2 hl)) ?_
  rw [tx_len]
  walk_at "S"
  have hc := (count_odd l).2
  by_cases c : Odd l
  · have : (((l.count 111 : Nat) : Int) + ((l.count 46 : Nat) : Int) < (l.length : Int)) := by have := hc.mpr c; omega
    rw [decide_eq_true this]
    exact q1 c
  · have : ¬ (((l.count 111 : Nat) : Int) + ((l.count 46 : Nat) : Int) < (l.length : Int)) := fun z => c (hc.mp (by omega))
    rw [decide_eq_false this]
    exact q2 c
def sp_Reader_init (K : PySem.W.Frag) (C : Addr) : Sp := fun vs H Q _ => ∃ p dx, vs = [.ref p] ∧ H p = some (.ins C dx []) ∧ ∀ H', Kp p H H' → Rdr C H' p [] → Q .non H'
theorem ok_Reader_init (T : Txt K mg f_worths f_has_row f_has_other_sign f_Reader_init f_Reader_left f_in_step f_law_cell f_law_whole f_law_ends f_law_pieces f_law_behind f_weight f_still_heap f_law_alike f_law_in_step f_row_of f_weight_of_signs f_law_held f_shown f_Reader_feed f_written f_read f_law_refused f_law_fed f_law_stepped f_law c_StairError c_NoNumber c_NoSign c_NoEnd c_Reader d_worths d_has_row d_has_other_sign d_Reader_init d_Reader_left d_in_step d_law_cell d_law_whole d_law_ends d_law_pieces d_law_behind d_weight d_still_heap d_law_alike d_law_in_step d_row_of d_weight_of_signs d_law_held d_shown d_Reader_feed d_written d_read d_law_refused d_law_fed d_law_stepped d_law) : FnOk P w K mg base CX0 1 f_Reader_init d_Reader_init ["self"] (sp_Reader_init K c_Reader) := by
  refine T.F_Reader_init.ok sc_Reader_init (fun vs H Q E h => by revert h; unfold sp_Reader_init; intro h; first | (obtain ⟨_, rfl, _⟩ := h; rfl) | (obtain ⟨_, _, rfl, _⟩ := h; rfl) | (obtain ⟨_, _, _, rfl, _⟩ := h; rfl) | (obtain ⟨_, _, _, _, rfl, _⟩ := h; rfl) | (obtain ⟨_, _, _, _, _, rfl, _⟩ := h; rfl) | (obtain ⟨_, _, _, _, _, _, rfl, _⟩ := h; rfl) | (obtain ⟨_, _, _, _, _, _, _, rfl, _⟩ := h; rfl) | (obtain ⟨_, _, _, _, _, _, _, _, rfl, _⟩ := h; rfl) | (obtain ⟨_, _, _, _, _, _, _, _, _, rfl, _⟩ := h; rfl) | (obtain ⟨_, _, _, _, _, _, _, _, _, _, rfl, _⟩ := h; rfl)) (fun cdv A outer s H vs Q E hr h => ?_)
  obtain ⟨p, dx, rfl, hp, q⟩ := h
  refine ⟨_, (pss_one (ps_fld (pv 0) pe_str rfl)), ?_⟩
  walk_at "S"
  refine ⟨p, c_Reader, dx, [], rfl, hp, T.cl_Reader, T.n_Reader_kept, by decide, ?_⟩
  exact q _ Kp.upd ⟨dx, by rw [upd_same, tx_nil]; rfl⟩
def sp_Reader_left (K : PySem.W.Frag) (C : Addr) : Sp := fun vs H Q _ => ∃ p r, vs = [.ref p] ∧ Rdr C H p r ∧ Q (.str (tx r)) H
theorem ok_Reader_left (T : Txt K mg f_worths f_has_row f_has_other_sign f_Reader_init f_Reader_left f_in_step f_law_cell f_law_whole f_law_ends f_law_pieces f_law_behind f_weight f_still_heap f_law_alike f_law_in_step f_row_of f_weight_of_signs f_law_held f_shown f_Reader_feed f_written f_read f_law_refused f_law_fed f_law_stepped f_law c_StairError c_NoNumber c_NoSign c_NoEnd c_Reader d_worths d_has_row d_has_other_sign d_Reader_init d_Reader_left d_in_step d_law_cell d_law_whole d_law_ends d_law_pieces d_law_behind d_weight d_still_heap d_law_alike d_law_in_step d_row_of d_weight_of_signs d_law_held d_shown d_Reader_feed d_written d_read d_law_refused d_law_fed d_law_stepped d_law) : FnOk P w K mg base CX0 1 f_Reader_left d_Reader_left ["self"] (sp_Reader_left K c_Reader) := by
  refine T.F_Reader_left.ok sc_Reader_left (fun vs H Q E h => by revert h; unfold sp_Reader_left; intro h; first | (obtain ⟨_, rfl, _⟩ := h; rfl) | (obtain ⟨_, _, rfl, _⟩ := h; rfl) | (obtain ⟨_, _, _, rfl, _⟩ := h; rfl) | (obtain ⟨_, _, _, _, rfl, _⟩ := h; rfl) | (obtain ⟨_, _, _, _, _, rfl, _⟩ := h; rfl) | (obtain ⟨_, _, _, _, _, _, rfl, _⟩ := h; rfl) | (obtain ⟨_, _, _, _, _, _, _, rfl, _⟩ := h; rfl) | (obtain ⟨_, _, _, _, _, _, _, _, rfl, _⟩ := h; rfl) | (obtain ⟨_, _, _, _, _, _, _, _, _, rfl, _⟩ := h; rfl) | (obtain ⟨_, _, _, _, _, _, _, _, _, _, rfl, _⟩ := h; rfl)) (fun cdv A outer s H vs Q E hr h => ?_)
  obtain ⟨p, r, rfl, ⟨dx, hp⟩, q⟩ := h
  refine ⟨_, (pss_one (ps_ret (pe_fld (pv 0) rfl))), ?_⟩
  walk_at "S"
  exact ⟨p, c_Reader, dx, _, _, rfl, hp, T.cl_Reader, T.n_Reader_kept, rfl, q⟩
def sp_in_step (K : PySem.W.Frag) : Sp := fun vs H Q _ => ∃ (l : List Nat) (b : Nat), vs = [.str (tx l), .int (b : Int)] ∧ b ≤ l.length ∧ Q (stepV l b) H
theorem ok_in_step (T : Txt K mg f_worths f_has_row f_has_other_sign f_Reader_init f_Reader_left f_in_step f_law_cell f_law_whole f_law_ends f_law_pieces f_law_behind f_weight f_still_heap f_law_alike f_law_in_step f_row_of f_weight_of_signs f_law_held f_shown f_Reader_feed f_written f_read f_law_refused f_law_fed f_law_stepped f_law c_StairError c_NoNumber c_NoSign c_NoEnd c_Reader d_worths d_has_row d_has_other_sign d_Reader_init d_Reader_left d_in_step d_law_cell d_law_whole d_law_ends d_law_pieces d_law_behind d_weight d_still_heap d_law_alike d_law_in_step d_row_of d_weight_of_signs d_law_held d_shown d_Reader_feed d_written d_read d_law_refused d_law_fed d_law_stepped d_law) : FnOk P w K mg base CX0 1 f_in_step d_in_step ["text", "place"] (sp_in_step K) := by
  refine T.F_in_step.ok sc_in_step (fun vs H Q E h => by revert h; unfold sp_in_step; intro h; first | (obtain ⟨_, rfl, _⟩ := h; rfl) | (obtain ⟨_, _, rfl, _⟩ := h; rfl) | (obtain ⟨_, _, _, rfl, _⟩ := h; rfl) | (obtain ⟨_, _, _, _, rfl, _⟩ := h; rfl) | (obtain ⟨_, _, _, _, _, rfl, _⟩ := h; rfl) | (obtain ⟨_, _, _, _, _, _, rfl, _⟩ := h; rfl) | (obtain ⟨_, _, _, _, _, _, _, rfl, _⟩ := h; rfl) | (obtain ⟨_, _, _, _, _, _, _, _, rfl, _⟩ := h; rfl) | (obtain ⟨_, _, _, _, _, _, _, _, _, rfl, _⟩ := h; rfl) | (obtain ⟨_, _, _, _, _, _, _, _, _, _, rfl, _⟩ := h; rfl)) (fun cdv A outer s H vs Q E hr h => ?_)
  obtain ⟨l, b, rfl, hb, q⟩ := h
  refine ⟨_, (pss_cons (ps_set (i := 2) sc_in_step.nd rfl (Or.inl rfl) (pe_bm PySem.F.plainAttrs_str PySem.F.slot_str_find PySem.F.type_str_find mt_find (pv 0) (pa_cons pe_str (pa_cons (pv 1) pa_nil)))) (pss_cons (ps_if (pt_cmpR op_lt (pv 2) pe_int (nomark _)) (pss_one (ps_ret pe_non)) pss_nil) (pss_one (ps_ret (pe_op op_add (pv 2) pe_int))))), ?_⟩
  walk_at "S"
  refine ⟨rfl, ?_⟩
  walk_at "S"
  refine ⟨l, [46, 111, 111], rfl, .inr ⟨b, hb, by rw [← tx_doo], ?_⟩⟩
  walk_at "S"
  unfold stepV at q
  refine r_ite (fun c => ?_) (fun c => ?_)
  · walk_at "S"
    rw [if_pos c] at q; exact q
  · walk_at "S"
    rw [if_neg c] at q; exact q
/-- a cell, or 0 -/
def sp_law_cell (K : PySem.W.Frag) : Sp := fun vs H Q _ => ∃ (a : Addr) (ns : List Int) (k : Int), vs = [.ref a, .int k] ∧ SqL K H a (ns.map V.int) ∧ 0 ≤ k ∧ Q (.int (ns.getD k.toNat 0)) H
theorem do_law_cell {K : PySem.W.Frag} {H : Hp} {Q : VK} {E : XK} {a : Addr} {ns : List Int} {k : Int} (h : SqL K H a (ns.map V.int)) (h0 : 0 ≤ k) (q : Q (.int (ns.getD k.toNat 0)) H) : sp_law_cell K [.ref a, .int k] H Q E := ⟨a, ns, k, rfl, h, h0, q⟩
theorem ok_law_cell (T : Txt K mg f_worths f_has_row f_has_other_sign f_Reader_init f_Reader_left f_in_step f_law_cell f_law_whole f_law_ends f_law_pieces f_law_behind f_weight f_still_heap f_law_alike f_law_in_step f_row_of f_weight_of_signs f_law_held f_shown f_Reader_feed f_written f_read f_law_refused f_law_fed f_law_stepped f_law c_StairError c_NoNumber c_NoSign c_NoEnd c_Reader d_worths d_has_row d_has_other_sign d_Reader_init d_Reader_left d_in_step d_law_cell d_law_whole d_law_ends d_law_pieces d_law_behind d_weight d_still_heap d_law_alike d_law_in_step d_row_of d_weight_of_signs d_law_held d_shown d_Reader_feed d_written d_read d_law_refused d_law_fed d_law_stepped d_law) : FnOk P w K mg base CX0 1 f_law_cell d_law_cell ["_law_script", "_law_k"] (sp_law_cell K) := by
  refine T.F_law_cell.ok sc_law_cell (fun vs H Q E h => by revert h; unfold sp_law_cell; intro h; first | (obtain ⟨_, rfl, _⟩ := h; rfl) | (obtain ⟨_, _, rfl, _⟩ := h; rfl) | (obtain ⟨_, _, _, rfl, _⟩ := h; rfl) | (obtain ⟨_, _, _, _, rfl, _⟩ := h; rfl) | (obtain ⟨_, _, _, _, _, rfl, _⟩ := h; rfl) | (obtain ⟨_, _, _, _, _, _, rfl, _⟩ := h; rfl) | (obtain ⟨_, _, _, _, _, _, _, rfl, _⟩ := h; rfl) | (obtain ⟨_, _, _, _, _, _, _, _, rfl, _⟩ := h; rfl) | (obtain ⟨_, _, _, _, _, _, _, _, _, rfl, _⟩ := h; rfl) | (obtain ⟨_, _, _, _, _, _, _, _, _, _, rfl, _⟩ := h; rfl)) (fun cdv A outer s H vs Q E hr h => ?_)
  obtain ⟨a, ns, k, rfl, hS, h0, q⟩ := h
  refine ⟨_, (pss_cons (ps_if (pt_cmpR op_lt (pv 1) (pe_callB c_len rfl T.z_len bt_len (pa_cons (pv 0) pa_nil)) (nomark _)) (pss_one (ps_ret (pe_ix ix_list (pv 0) (pv 1) (fun _ _ => rfl)))) pss_nil) (pss_one (ps_ret pe_int))), ?_⟩
  walk_at "S"
  rw [List.length_map]
  refine r_ite (fun c => ?_) (fun c => ?_)
  · walk_at "S"
    exact r_ixL hS (at_int h0 c) q
  · walk_at "S"
    have : ns.getD k.toNat 0 = 0 := by
      rw [List.getD_eq_getElem?_getD, List.getElem?_eq_none (by omega)]; rfl
    rw [this] at q
    exact q
def sp_law_whole (K : PySem.W.Frag) : Sp := fun vs H Q _ => ∃ n : Int, vs = [.int n] ∧ Q (.bl true) H
theorem ok_law_whole (T : Txt K mg f_worths f_has_row f_has_other_sign f_Reader_init f_Reader_left f_in_step f_law_cell f_law_whole f_law_ends f_law_pieces f_law_behind f_weight f_still_heap f_law_alike f_law_in_step f_row_of f_weight_of_signs f_law_held f_shown f_Reader_feed f_written f_read f_law_refused f_law_fed f_law_stepped f_law c_StairError c_NoNumber c_NoSign c_NoEnd c_Reader d_worths d_has_row d_has_other_sign d_Reader_init d_Reader_left d_in_step d_law_cell d_law_whole d_law_ends d_law_pieces d_law_behind d_weight d_still_heap d_law_alike d_law_in_step d_row_of d_weight_of_signs d_law_held d_shown d_Reader_feed d_written d_read d_law_refused d_law_fed d_law_stepped d_law) : FnOk P w K mg base CX0 1 f_law_whole d_law_whole ["_law_found"] (sp_law_whole K) := by
  refine T.F_law_whole.ok sc_law_whole (fun vs H Q E h => by revert h; unfold sp_law_whole; intro h; first | (obtain ⟨_, rfl, _⟩ := h; rfl) | (obtain ⟨_, _, rfl, _⟩ := h; rfl) | (obtain ⟨_, _, _, rfl, _⟩ := h; rfl) | (obtain ⟨_, _, _, _, rfl, _⟩ := h; rfl) | (obtain ⟨_, _, _, _, _, rfl, _⟩ := h; rfl) | (obtain ⟨_, _, _, _, _, _, rfl, _⟩ := h; rfl) | (obtain ⟨_, _, _, _, _, _, _, rfl, _⟩ := h; rfl) | (obtain ⟨_, _, _, _, _, _, _, _, rfl, _⟩ := h; rfl) | (obtain ⟨_, _, _, _, _, _, _, _, _, rfl, _⟩ := h; rfl) | (obtain ⟨_, _, _, _, _, _, _, _, _, _, rfl, _⟩ := h; rfl)) (fun cdv A outer s H vs Q E hr h => ?_)
  obtain ⟨n, rfl, q⟩ := h
  refine ⟨_, (pss_one (ps_ret (pe_and (pe_callB call_isi rfl T.z_isinstance bt_isinstance (pa_cons (pv 0) (pa_cons (pe_bltn (v := .ty "int") rfl T.z_int bt_int rfl) pa_nil))) (pe_one (pe_not (pe_callB call_isi rfl T.z_isinstance bt_isinstance (pa_cons (pv 0) (pa_cons (pe_bltn (v := .ty "bool") rfl T.z_bool bt_bool rfl) pa_nil)))))))), ?_⟩
  walk_at "S"
  refine r_isi (.int _) T.i_ii ?_
  walk_at "S"
  refine iteT ?_
  walk_at "S"
  refine r_isi (.int _) T.i_ib ?_
  walk_at "S"
  exact q
def sp_law_ends (K : PySem.W.Frag) : Sp := fun vs H Q _ => ∃ l : List Nat, vs = [.str (tx l)] ∧ l.length ≤ 7900 ∧ ∀ (p : Addr) (H' : Hp), Same H H' → H p = none → H' p = some (.lst (((endsTo l l.length).map fun e : Nat => (e : Int)).map V.int)) → Q (.ref p) H'
theorem ok_law_ends (T : Txt K mg f_worths f_has_row f_has_other_sign f_Reader_init f_Reader_left f_in_step f_law_cell f_law_whole f_law_ends f_law_pieces f_law_behind f_weight f_still_heap f_law_alike f_law_in_step f_row_of f_weight_of_signs f_law_held f_shown f_Reader_feed f_written f_read f_law_refused f_law_fed f_law_stepped f_law c_StairError c_NoNumber c_NoSign c_NoEnd c_Reader d_worths d_has_row d_has_other_sign d_Reader_init d_Reader_left d_in_step d_law_cell d_law_whole d_law_ends d_law_pieces d_law_behind d_weight d_still_heap d_law_alike d_law_in_step d_row_of d_weight_of_signs d_law_held d_shown d_Reader_feed d_written d_read d_law_refused d_law_fed d_law_stepped d_law) : FnOk P w K mg base CX0 1 f_law_ends d_law_ends ["_law_text"] (sp_law_ends K) := by
  refine T.F_law_ends.ok sc_law_ends (fun vs H Q E h => by revert h; unfold sp_law_ends; intro h; first | (obtain ⟨_, rfl, _⟩ := h; rfl) | (obtain ⟨_, _, rfl, _⟩ := h; rfl) | (obtain ⟨_, _, _, rfl, _⟩ := h; rfl) | (obtain ⟨_, _, _, _, rfl, _⟩ := h; rfl) | (obtain ⟨_, _, _, _, _, rfl, _⟩ := h; rfl) | (obtain ⟨_, _, _, _, _, _, rfl, _⟩ := h; rfl) | (obtain ⟨_, _, _, _, _, _, _, rfl, _⟩ := h; rfl) | (obtain ⟨_, _, _, _, _, _, _, _, rfl, _⟩ := h; rfl) | (obtain ⟨_, _, _, _, _, _, _, _, _, rfl, _⟩ := h; rfl) | (obtain ⟨_, _, _, _, _, _, _, _, _, _, rfl, _⟩ := h; rfl)) (fun cdv A outer s H vs Q E hr h => ?_)
  obtain ⟨l, rfl, hl, q⟩ := h
  refine ⟨_, (pss_cons (ps_set (i := 1) sc_law_ends.nd rfl (Or.inl rfl) (pe_lst pa_nil)) (pss_cons (ps_set (i := 2) sc_law_ends.nd rfl (Or.inl rfl) pe_bl) (pss_cons (ps_for PassesOwn.never rfl (pi_range1 rfl T.z_range (pa_cons (pe_callB c_lenS rfl T.z_len bt_len (pa_cons (pv 0) pa_nil)) pa_nil)) (pg_name (i := 3) sc_law_ends.nd rfl (Or.inl rfl)) (pss_one (ps_if (PW.pt (pw_and (pt_val (pv 2)) (pw_and1 (pt_cmpR op_eq (pe_ix ix_str (pv 0) (pv 3) (fun _ _ => rfl)) pe_str (nomark _))))) (pss_cons (ps_expr (pe_bm PySem.F.plainAttrs_list PySem.F.slot_list_append PySem.F.type_list_append mt_append (pv 1) (pa_cons (pe_op op_add (pv 3) pe_int) pa_nil))) (pss_one (ps_set (i := 2) sc_law_ends.nd rfl (Or.inl rfl) pe_bl))) (pss_one (ps_set (i := 2) sc_law_ends.nd rfl (Or.inl rfl) (pe_cmpR op_eq (pe_ix ix_str (pv 0) (pv 3) (fun _ _ => rfl)) pe_str (nomark _))))))) (pss_one (ps_ret (pv 1)))))), ?_⟩
  walk_at "S"
  refine ⟨Nat.zero_le _, fun p hp => ?_⟩
  have s1 := same_new hp (.lst [])
  have ep : upd H p (.lst []) p = some (.lst []) := upd_same
  generalize upd H p (.lst []) = H1 at s1 ep
  walk_at "S"
  refine r_for (r_rng1 ?_)
  walk_at "S"
  refine r_lenS (by rw [tx_len]; exact Nat.le_of_lt (small2 (by omega))) ?_
  rw [tx_len]
  walk_at "S"
  refine ⟨_, rfl, by omega, by omega, for_range (fun i σ H' => ∃ o : Option V, σ = [some (.str (tx l)), some (.ref p), some (.bl (decide ((rdC ([], []) (l.take i)).2.getLast? = some 111))), o] ∧ Same H H' ∧ (endsTo l i).length ≤ i ∧ H' p = some (.lst (((endsTo l i).map fun e : Nat => (e : Int)).map V.int))) ⟨none, rfl, s1, Nat.le_refl _, ep⟩ ?_ ?_⟩
  · clear s1 ep
    rintro i σ H2 hi ⟨o, rfl, g, hle, ep⟩
    have hi' : i < l.length := by omega
    have hc : l[i]? = some l[i] := List.getElem?_eq_getElem hi'
    have hstep := rdC_take hc
    generalize l[i] = c at hc hstep
    have i0 : (0 + (i : Int)) = ((i : Nat) : Int) := by omega
    have hat : atI l (i : Int) = some c := atI_nat hc
    have hz : l.length ≤ sizeLine := Nat.le_of_lt (small2 (by omega))
    walk_at "S"
    by_cases cl : (rdC ([], []) (l.take i)).2.getLast? = some 111
    · rw [decide_eq_true cl]
      refine iteT ?_
      walk_at "S"
      rw [i0]
      refine r_ixS hz hat ?_
      walk_at "S"
      by_cases c1 : c = 111
      · rw [decide_eq_true (tx_ne_o.mpr c1)]
        refine iteT ?_
        walk_at "S"
        refine ⟨ty_lst ep, ?_⟩
        walk_at "S"
        refine r_append ep (small2 (by rw [List.length_map, List.length_map]; omega)) ?_
        walk_at "S"
        have he : isEnd l i := ⟨by rw [hc, c1], cl⟩
        have hE : endsTo l (i + 1) = endsTo l i ++ [i + 1] := by show endsTo l i ++ (if isEnd l i then [i + 1] else []) = _; rw [if_pos he]
        have hS2 : (rdC ([], []) (l.take (i + 1))).2 = [] := by rw [hstep]; unfold stC; rw [if_pos ⟨c1, cl⟩]
        refine ⟨_, by rw [hS2]; rfl, g.upd hp _, by rw [hE, List.length_append]; simp; omega, ?_⟩
        rw [upd_same, hE, List.map_append, List.map_append]; rfl
      · rw [decide_eq_false (fun z => c1 (tx_ne_o.mp z))]
        refine iteF ?_
        walk_at "S"
        refine r_ixS hz hat ?_
        walk_at "S"
        have he : ¬ isEnd l i := fun z => c1 (by have := z.1; rw [hc] at this; exact Option.some.inj this)
        have hE : endsTo l (i + 1) = endsTo l i := by show endsTo l i ++ (if isEnd l i then [i + 1] else []) = _; rw [if_neg he, List.append_nil]
        have hS2 : (rdC ([], []) (l.take (i + 1))).2.getLast? = some c := by rw [hstep]; unfold stC; rw [if_neg (fun z => c1 z.1)]; simp
        refine ⟨some (.int (i : Int)), ?_, g, by rw [hE]; omega, by rw [hE]; exact ep⟩
        rw [hS2, decide_eq_false (fun z => c1 (tx_ne_o.mp z)), decide_eq_false (fun z => c1 (Option.some.inj z))]; rfl
    · rw [decide_eq_false cl]
      refine iteF ?_
      refine iteF ?_
      walk_at "S"
      rw [i0]
      refine r_ixS hz hat ?_
      walk_at "S"
      have he : ¬ isEnd l i := fun z => cl z.2
      have hE : endsTo l (i + 1) = endsTo l i := by show endsTo l i ++ (if isEnd l i then [i + 1] else []) = _; rw [if_neg he, List.append_nil]
      have hS2 : (rdC ([], []) (l.take (i + 1))).2.getLast? = some c := by rw [hstep]; unfold stC; rw [if_neg (fun z => cl z.2)]; simp
      refine ⟨some (.int (i : Int)), ?_, g, by rw [hE]; omega, by rw [hE]; exact ep⟩
      have hd : decide (V.str (tx [c]) = V.str "o") = decide (some c = some 111) := by rw [decide_eq_decide, tx_ne_o]; simp
      rw [hS2, hd]; rfl
  · rintro σ H2 ⟨o, rfl, g, hle, ep⟩
    rw [Int.toNat_natCast] at ep
    walk_at "S"
    exact q p H2 g hp ep
def sp_law_pieces (K : PySem.W.Frag) : Sp := fun vs H Q _ => ∃ (a : Addr) (ns : List Int) (l : List Nat), vs = [.ref a, .str (tx l)] ∧ SqL K H a (ns.map V.int) ∧ ns.length ≤ 63 ∧ l.length ≤ 7700 ∧ ∀ (z : Addr) (ps : List (List Nat)) (H' : Hp), Same H H' → H z = none → H' z = some (.lst (ps.map fun u => V.str (tx u))) → ps.flatten = l → 1 ≤ ps.length → ps.length ≤ 64 → Q (.ref z) H'
theorem ok_law_pieces (T : Txt K mg f_worths f_has_row f_has_other_sign f_Reader_init f_Reader_left f_in_step f_law_cell f_law_whole f_law_ends f_law_pieces f_law_behind f_weight f_still_heap f_law_alike f_law_in_step f_row_of f_weight_of_signs f_law_held f_shown f_Reader_feed f_written f_read f_law_refused f_law_fed f_law_stepped f_law c_StairError c_NoNumber c_NoSign c_NoEnd c_Reader d_worths d_has_row d_has_other_sign d_Reader_init d_Reader_left d_in_step d_law_cell d_law_whole d_law_ends d_law_pieces d_law_behind d_weight d_still_heap d_law_alike d_law_in_step d_row_of d_weight_of_signs d_law_held d_shown d_Reader_feed d_written d_read d_law_refused d_law_fed d_law_stepped d_law) : FnOk P w K mg base CX0 1 f_law_pieces d_law_pieces ["_law_script", "_law_text"] (sp_law_pieces K) := by
  refine T.F_law_pieces.ok sc_law_pieces (fun vs H Q E h => by revert h; unfold sp_law_pieces; intro h; first | (obtain ⟨_, rfl, _⟩ := h; rfl) | (obtain ⟨_, _, rfl, _⟩ := h; rfl) | (obtain ⟨_, _, _, rfl, _⟩ := h; rfl) | (obtain ⟨_, _, _, _, rfl, _⟩ := h; rfl) | (obtain ⟨_, _, _, _, _, rfl, _⟩ := h; rfl) | (obtain ⟨_, _, _, _, _, _, rfl, _⟩ := h; rfl) | (obtain ⟨_, _, _, _, _, _, _, rfl, _⟩ := h; rfl) | (obtain ⟨_, _, _, _, _, _, _, _, rfl, _⟩ := h; rfl) | (obtain ⟨_, _, _, _, _, _, _, _, _, rfl, _⟩ := h; rfl) | (obtain ⟨_, _, _, _, _, _, _, _, _, _, rfl, _⟩ := h; rfl)) (fun cdv A outer s H vs Q E hr h => ?_)
  obtain ⟨a, ns, l, rfl, hS, hnl, hl, q⟩ := h
  refine ⟨_, (pss_cons (ps_set (i := 2) sc_law_pieces.nd rfl (Or.inl rfl) (pe_lst pa_nil)) (pss_cons (ps_set (i := 3) sc_law_pieces.nd rfl (Or.inl rfl) pe_int) (pss_cons (ps_for PassesOwn.never rfl (pi_list (pe_slice sl_list (pv 0) (po_some pe_int) (po_some pe_int))) (pg_name (i := 4) sc_law_pieces.nd rfl (Or.inl rfl)) (pss_cons (ps_set (i := 5) sc_law_pieces.nd rfl (Or.inl rfl) (pe_ix ix_list (pe_lst (pa_cons pe_int (pa_cons pe_int (pa_cons pe_int (pa_cons pe_int (pa_cons pe_int (pa_cons pe_int (pa_cons pe_int (pa_cons pe_int pa_nil))))))))) (pe_op op_mod (pe_op op_mod (pv 4) pe_int) pe_int) (fun _ _ => rfl))) (pss_cons (ps_expr (pe_bm PySem.F.plainAttrs_list PySem.F.slot_list_append PySem.F.type_list_append mt_append (pv 2) (pa_cons (pe_slice sl_str (pv 1) (po_some (pv 3)) (po_some (pe_op op_add (pv 3) (pv 5)))) pa_nil))) (pss_one (ps_set (i := 3) sc_law_pieces.nd rfl (Or.inl rfl) (pe_op op_add (pv 3) (pv 5))))))) (pss_one (ps_ret (pe_op op_cat (pv 2) (pe_lst (pa_cons (pe_slice sl_str (pv 1) (po_some (pv 3)) po_none) pa_nil)))))))), ?_⟩
  walk_at "S"
  refine ⟨Nat.zero_le _, fun z hz => ?_⟩
  have s1 := same_new hz (.lst [])
  have ez : upd H z (.lst []) z = some (.lst (([] : List (List Nat)).map fun u => V.str (tx u))) := upd_same
  generalize upd H z (.lst []) = H1 at s1 ez
  walk_at "S"
  refine r_for (r_ilist ?_)
  walk_at "S"
  refine r_slL (s1.seq hS) (fun c0 hc0 => ?_)
  obtain ⟨cs, ec, hcl, hcx⟩ := cut_ints ns (some 1) (some 41)
  clear hcx
  rw [ec]
  have s3 := same_new hc0 (.lst (cs.map V.int))
  have ec0 : upd H1 c0 (.lst (cs.map V.int)) c0 = some (.lst (cs.map V.int)) := upd_same
  have cz : c0 ≠ z := (ne_of_none ez hc0).symm
  generalize upd H1 c0 (.lst (cs.map V.int)) = H3 at s3 ec0
  replace s1 := s1.trans s3
  replace ez := s3 _ _ ez
  refine ⟨c0, rfl, ⟨_, SqL.of ec0⟩, for_list (xs := cs.map V.int) (fun i σ H' => ∃ (ps : List (List Nat)) (pl : Nat) (o1 o2 : Option V), σ = [some (.ref a), some (.str (tx l)), some (.ref z), some (.int (pl : Int)), o1, o2] ∧ Same H H' ∧ H' c0 = some (.lst (cs.map V.int)) ∧ H' z = some (.lst (ps.map fun u => V.str (tx u))) ∧ ps.length = i ∧ ps.flatten = l.take pl)
      ⟨[], 0, none, none, rfl, s1, ec0, ez, rfl, rfl⟩ (fun i σ H' _ h => by obtain ⟨_, _, _, _, _, _, e, _⟩ := h; exact SqL.of e) ?_ ?_⟩
  · clear s1 ez ec0 s3
    rintro i x σ H6 hx ⟨ps, pl, o1, o2, rfl, g, ec0, ez, hpl, hfl⟩
    obtain ⟨v, rfl, _, hi, _⟩ := map_at hx
    walk_at "S"
    refine ⟨(by show 8 ≤ sizeLine; decide), fun b hb => ?_⟩
    have s4 := same_new hb (.lst [.int 1, .int 0, .int 2, .int 3, .int 5, .int 9, .int 40, .int 300])
    have eb : upd H6 b (.lst [.int 1, .int 0, .int 2, .int 3, .int 5, .int 9, .int 40, .int 300]) b = some (.lst [.int 1, .int 0, .int 2, .int 3, .int 5, .int 9, .int 40, .int 300]) := upd_same
    generalize upd H6 b (.lst [.int 1, .int 0, .int 2, .int 3, .int 5, .int 9, .int 40, .int 300]) = H7 at s4 eb
    replace g := g.trans s4
    replace ec0 := s4 _ _ ec0
    replace ez := s4 _ _ ez
    walk_at "S"
    refine r_I (by decide) ?_
    walk_at "S"
    refine r_I (by decide) ?_
    have k0 : 0 ≤ v % 23 % 8 := Int.emod_nonneg _ (by decide)
    have k1 : v % 23 % 8 < 8 := Int.emod_lt_of_pos _ (by decide)
    obtain ⟨y, hy, hmy⟩ := at_ok (l := [V.int 1, .int 0, .int 2, .int 3, .int 5, .int 9, .int 40, .int 300]) k0 (by simpa using k1)
    obtain ⟨m, rfl⟩ := eight_many hmy
    walk_at "S"
    refine r_ixL (SqL.of eb) hy ?_
    walk_at "S"
    refine ⟨ty_lst ez, ?_⟩
    walk_at "S"
    refine r_slS (Nat.le_of_lt (small2 (by omega))) ?_
    rw [show (pl : Int) + (m : Int) = ((pl + m : Nat) : Int) by omega, cutN_nat]
    walk_at "S"
    refine r_append ez (small2 (by rw [List.length_map]; omega)) ?_
    walk_at "S"
    refine ⟨ps ++ [(l.take (pl + m)).drop pl], pl + m, _, _, by first | rfl | (rw [Int.natCast_add]; first | done | rfl), g.upd hz _, by rw [upd_ne cz]; exact ec0, by rw [upd_same, List.map_append]; rfl, by simp [hpl], ?_⟩
    rw [List.flatten_append, hfl, List.flatten_cons, List.flatten_nil, List.append_nil]
    exact take_cat l pl m
  · clear s1 ez ec0 s3
    rintro σ H6 ⟨ps, pl, o1, o2, rfl, g, ec0, ez, hpl, hfl⟩
    rw [List.length_map] at hpl
    walk_at "S"
    refine r_slS (Nat.le_of_lt (small2 (by omega))) ?_
    rw [cutN_from]
    walk_at "S"
    refine ⟨(by show 1 ≤ sizeLine; decide), fun b hb => ?_⟩
    have s4 := same_new hb (.lst [.str (tx (l.drop pl))])
    have eb : upd H6 b (.lst [.str (tx (l.drop pl))]) b = some (.lst [.str (tx (l.drop pl))]) := upd_same
    generalize upd H6 b (.lst [.str (tx (l.drop pl))]) = H7 at s4 eb
    replace g := g.trans s4
    replace ez := s4 _ _ ez
    refine r_cat ez eb (Nat.le_of_lt (small2 (by rw [List.length_map]; simp only [List.length_cons, List.length_nil]; omega))) (fun y hy => ?_)
    refine q y (ps ++ [l.drop pl]) _ (g.trans (same_new hy _)) (g.free hy) (by rw [upd_same, List.map_append]; rfl) ?_ (by simp) (by simp; omega)
    rw [List.flatten_append, hfl]; simp
def sp_law_behind (K : PySem.W.Frag) : Sp := fun vs H Q _ => ∃ (l : List Nat) (b : Nat), vs = [.str (tx l), .int (b : Int)] ∧ b ≤ l.length ∧ l.length ≤ 7900 ∧ Q (stepV l b) H
theorem ok_law_behind (T : Txt K mg f_worths f_has_row f_has_other_sign f_Reader_init f_Reader_left f_in_step f_law_cell f_law_whole f_law_ends f_law_pieces f_law_behind f_weight f_still_heap f_law_alike f_law_in_step f_row_of f_weight_of_signs f_law_held f_shown f_Reader_feed f_written f_read f_law_refused f_law_fed f_law_stepped f_law c_StairError c_NoNumber c_NoSign c_NoEnd c_Reader d_worths d_has_row d_has_other_sign d_Reader_init d_Reader_left d_in_step d_law_cell d_law_whole d_law_ends d_law_pieces d_law_behind d_weight d_still_heap d_law_alike d_law_in_step d_row_of d_weight_of_signs d_law_held d_shown d_Reader_feed d_written d_read d_law_refused d_law_fed d_law_stepped d_law) : FnOk P w K mg base CX0 1 f_law_behind d_law_behind ["_law_text", "_law_place"] (sp_law_behind K) := by
  refine T.F_law_behind.ok sc_law_behind (fun vs H Q E h => by revert h; unfold sp_law_behind; intro h; first | (obtain ⟨_, rfl, _⟩ := h; rfl) | (obtain ⟨_, _, rfl, _⟩ := h; rfl) | (obtain ⟨_, _, _, rfl, _⟩ := h; rfl) | (obtain ⟨_, _, _, _, rfl, _⟩ := h; rfl) | (obtain ⟨_, _, _, _, _, rfl, _⟩ := h; rfl) | (obtain ⟨_, _, _, _, _, _, rfl, _⟩ := h; rfl) | (obtain ⟨_, _, _, _, _, _, _, rfl, _⟩ := h; rfl) | (obtain ⟨_, _, _, _, _, _, _, _, rfl, _⟩ := h; rfl) | (obtain ⟨_, _, _, _, _, _, _, _, _, rfl, _⟩ := h; rfl) | (obtain ⟨_, _, _, _, _, _, _, _, _, _, rfl, _⟩ := h; rfl)) (fun cdv A outer s H vs Q E hr h => ?_)
  obtain ⟨l, b, rfl, hb, hl, q⟩ := h
  refine ⟨_, (pss_cons (ps_set (i := 2) sc_law_behind.nd rfl (Or.inl rfl) pe_non) (pss_cons (ps_for PassesOwn.never rfl (pi_rangeD rfl T.z_range (pa_cons (pe_op op_sub (pe_callB c_lenS rfl T.z_len bt_len (pa_cons (pv 0) pa_nil)) pe_int) (pa_cons (pe_op op_sub (pv 1) pe_int) (pa_cons (pe_un un_neg pe_int) pa_nil)))) (pg_name (i := 3) sc_law_behind.nd rfl (Or.inl rfl)) (pss_one (ps_if (pt_cmpR op_eq (pe_slice sl_str (pv 0) (po_some (pv 3)) (po_some (pe_op op_add (pv 3) pe_int))) pe_str (nomark _)) (pss_one (ps_set (i := 2) sc_law_behind.nd rfl (Or.inl rfl) (pe_op op_add (pv 3) pe_int))) pss_nil))) (pss_one (ps_ret (pv 2))))), ?_⟩
  walk_at "S"
  refine r_for (r_rngD ?_)
  walk_at "S"
  refine r_lenS (by rw [tx_len]; exact Nat.le_of_lt (small2 (by omega))) ?_
  rw [tx_len]
  walk_at "S"
  refine ⟨_, _, rfl, ⟨by omega, by omega, by omega, by omega⟩, for_down (fun i σ H' => H' = H ∧ ∃ (bb : Nat) (o : Option V), (bb : Int) = max ((l.length : Int) - 2) (b : Int) - i ∧ σ = [some (.str (tx l)), some (.int (b : Int)), some (stepV l bb), o]) ⟨rfl, (max ((l.length : Int) - 2) (b : Int)).toNat, none, by omega, ?_⟩ ?_ ?_⟩
  · have : stepV l (max ((l.length : Int) - 2) (b : Int)).toNat = .non := by
      unfold stepV
      rw [findN_far _ _ _ (by show l.length < _ + 3; omega), if_pos (by decide)]
    rw [this]; rfl
  · rintro i σ H' hi ⟨rfl, bb, o, hbb, rfl⟩
    have hlo : (l.length : Int) - 2 ≥ (b : Int) := by omega
    have e1 : ((l.length : Int) - 3 - i) = ((bb - 1 : Nat) : Int) := by omega
    have hb1 : 1 ≤ bb := by omega
    rw [e1]
    walk_at "S"
    refine r_slS (Nat.le_of_lt (small2 (by omega))) ?_
    rw [show ((bb - 1 : Nat) : Int) + 3 = ((bb - 1 + 3 : Nat) : Int) by omega, cutN_nat]
    walk_at "S"
    rw [tx_doo]
    have hst := findN_step l [46, 111, 111] (bb - 1) (by omega)
    rw [show bb - 1 + 1 = bb by omega] at hst
    have hcut : (l.take (bb - 1 + 3)).drop (bb - 1) = (l.drop (bb - 1)).take 3 := by rw [List.drop_take]; congr 1; omega
    rw [hcut]
    by_cases c : (l.drop (bb - 1)).take 3 = [46, 111, 111]
    · rw [decide_eq_true (by rw [c])]
      refine iteT ?_
      walk_at "S"
      have hh : hasAt l [46, 111, 111] (bb - 1) = true := by
        show (decide (bb - 1 + 3 ≤ l.length) && decide ((l.drop (bb - 1)).take 3 = [46, 111, 111])) = true
        rw [decide_eq_true (show bb - 1 + 3 ≤ l.length by omega), decide_eq_true c]; rfl
      rw [if_pos hh] at hst
      refine ⟨rfl, bb - 1, some (.int ((bb - 1 : Nat) : Int)), by omega, ?_⟩
      have : stepV l (bb - 1) = .int (((bb - 1 : Nat) : Int) + 3) := by unfold stepV; rw [hst, if_neg (by omega)]
      rw [this]; rfl
    · rw [decide_eq_false (fun z => c (tx_inj (V.str.inj z)))]
      refine iteF ?_
      walk_at "S"
      have hh : ¬ hasAt l [46, 111, 111] (bb - 1) = true := by
        show ¬ (decide (bb - 1 + 3 ≤ l.length) && decide ((l.drop (bb - 1)).take 3 = [46, 111, 111])) = true
        rw [decide_eq_false c]; simp
      rw [if_neg hh] at hst
      refine ⟨rfl, bb - 1, some (.int ((bb - 1 : Nat) : Int)), by omega, ?_⟩
      have : stepV l (bb - 1) = stepV l bb := by unfold stepV; rw [hst]
      rw [this]; rfl
  · rintro σ H' ⟨rfl, bb, o, hbb, rfl⟩
    have : bb = b := by omega
    subst this
    walk_at "S"
    exact q
def sp_weight (K : PySem.W.Frag) : Sp := fun vs H Q _ => ∃ (a : Addr) (ns : List Int), vs = [.ref a] ∧ Rd H a (.lst (ns.map V.int)) ∧ ns.length ≤ 8000 ∧ (∀ x ∈ ns, 0 ≤ x ∧ x ≤ 10 ^ 60) ∧ ∀ H' : Hp, Same H H' → Q (.int (wt ns)) H'
theorem ok_weight (T : Txt K mg f_worths f_has_row f_has_other_sign f_Reader_init f_Reader_left f_in_step f_law_cell f_law_whole f_law_ends f_law_pieces f_law_behind f_weight f_still_heap f_law_alike f_law_in_step f_row_of f_weight_of_signs f_law_held f_shown f_Reader_feed f_written f_read f_law_refused f_law_fed f_law_stepped f_law c_StairError c_NoNumber c_NoSign c_NoEnd c_Reader d_worths d_has_row d_has_other_sign d_Reader_init d_Reader_left d_in_step d_law_cell d_law_whole d_law_ends d_law_pieces d_law_behind d_weight d_still_heap d_law_alike d_law_in_step d_row_of d_weight_of_signs d_law_held d_shown d_Reader_feed d_written d_read d_law_refused d_law_fed d_law_stepped d_law) : FnOk P w K mg base CX0 2 f_weight d_weight ["heap"] (sp_weight K) := by
  refine T.F_weight.ok sc_weight (fun vs H Q E h => by revert h; unfold sp_weight; intro h; first | (obtain ⟨_, rfl, _⟩ := h; rfl) | (obtain ⟨_, _, rfl, _⟩ := h; rfl) | (obtain ⟨_, _, _, rfl, _⟩ := h; rfl) | (obtain ⟨_, _, _, _, rfl, _⟩ := h; rfl) | (obtain ⟨_, _, _, _, _, rfl, _⟩ := h; rfl) | (obtain ⟨_, _, _, _, _, _, rfl, _⟩ := h; rfl) | (obtain ⟨_, _, _, _, _, _, _, rfl, _⟩ := h; rfl) | (obtain ⟨_, _, _, _, _, _, _, _, rfl, _⟩ := h; rfl) | (obtain ⟨_, _, _, _, _, _, _, _, _, rfl, _⟩ := h; rfl) | (obtain ⟨_, _, _, _, _, _, _, _, _, _, rfl, _⟩ := h; rfl)) (fun cdv A outer s H vs Q E hr h => ?_)
  obtain ⟨a, ns, rfl, hS, hl, hb, q⟩ := h
  have hS' : SqL K H a (ns.map V.int) := .inl hS
  refine ⟨_, (pss_one (ps_ret (pe_callB (call_sum rfl) rfl T.z_sum bt_sum (pa_cons (pe_comp (N' := ["shells", "value"]) rfl (comp_plain rfl (by decide) (by decide) (by decide)) (pi_zip rfl T.z_zip (pa_cons (pv 0) (pa_cons (pe_call ((ok_worths (P := P) (w := w) (base := base) T).mono (by decide)) hr rfl T.m_worths T.F_worths.kp T.b_worths .nil pass0 (pa_cons (pe_callB c_len rfl T.z_len bt_len (pa_cons (pv 0) pa_nil)) pa_nil)) pa_nil))) (fun _ _ _ _ => (pg_tupK (K := K) (n := 2) rfl rfl (pgs_cons (pg_name (i := 0) (show List.Nodup (["shells", "value"] : List Str) by decide +kernel) rfl (Or.inl rfl) (Or.inr rfl)) (pgs_cons (pg_name (i := 1) (show List.Nodup (["shells", "value"] : List Str) by decide +kernel) rfl (Or.inl rfl) (Or.inr rfl)) pgs_nil)) rfl)) (fun _ _ _ _ => pifs_nil) (fun _ _ _ _ => (pe_op (op_mulB 200 8002 (by decide)) (pv 0) (pv 1)))) pa_nil)))), ?_⟩
  walk_at "S"
  refine ⟨ns.length, by rw [List.length_map]; rfl, by omega, fun r H1 g h0 hr1 => ?_⟩
  walk_at "S"
  refine ⟨a, r, _, _, rfl, hS.same g, .inl hr1, fun D hD => ?_⟩
  refine ⟨fun i m σ' ys H' => m = ns.length - i ∧ i ≤ ns.length ∧ (∃ o1 o2, σ' = [o1, o2]) ∧ ys = ((List.range i).map fun j => ns.getD j 0 * Fb j).map V.int ∧ Same H1 H' ∧ H' D = some (.lst ys), ⟨ns.length, rfl, Nat.zero_le _, ⟨none, none, rfl⟩, rfl, same_new hD _, upd_same⟩, ?_⟩
  rintro i m σ' ys H' ⟨rfl, hi, ⟨o1, o2, rfl⟩, rfl, g2, hD2⟩
  refine ⟨hD2, small2 (by simp only [List.length_map, List.length_range]; omega), ?_⟩
  have ra := hS.same (g.trans g2)
  have rr : Rd H' r (.lst ((wl ns.length).map V.int)) := .inl (g2 _ _ hr1)
  by_cases hlt : i < ns.length
  · have e1' : (ns.map V.int)[i]? = some (.int (ns.getD i 0)) := by rw [List.getElem?_map, List.getD_eq_getElem?_getD, List.getElem?_eq_getElem hlt]; rfl
    have e2' : ((wl ns.length).map V.int)[i]? = some (.int (Fb i)) := by rw [List.getElem?_map, wl_at _ _ hlt]; rfl
    refine .inr ⟨⟨_, _, _, _, ra, rr, e1', e2'⟩, ?_⟩
    rintro x H2 ⟨x1, y1, p, rfl, hp, rfl, hxy⟩
    obtain ⟨e1, e2⟩ := hxy _ _ ra rr
    rw [e1'] at e1; cases e1
    rw [e2'] at e2; cases e2
    have bv := hb (ns.getD i 0) (by rw [List.getD_eq_getElem?_getD, List.getElem?_eq_getElem hlt]; exact List.getElem_mem hlt)
    refine ⟨p, _, rfl, SqT.of upd_same, rfl, _, _, rfl, ?_⟩
    walk_at "S"
    refine ⟨_, _, rfl, ?_⟩
    walk_at "S"
    refine ⟨rfl, ?_⟩
    refine r_true ?_
    refine iteT ?_
    walk_at "S"
    refine r_I ⟨bitsC bv.1 bv.2, bitsF (m := 8002) (by omega)⟩ ?_
    refine ⟨by rw [upd_ne (ne_of_none hD2 hp)]; exact hD2, ns.length - (i + 1), by omega, rfl, hlt, ⟨_, _, rfl⟩, ?_, ?_, upd_same⟩
    · rw [List.range_succ, List.map_append, List.map_append]; rfl
    · exact (g2.trans (same_new hp _)).upd hD _
  · have e : i = ns.length := by omega
    subst e
    refine .inl ⟨⟨_, _, ra, rr, .inl (by rw [List.length_map]; exact Nat.le_refl _)⟩, ?_⟩
    walk_at "S"
    refine r_sum (SqL.of hD2) ?_
    rw [sum_wt ns _ rfl]
    exact q H' (g.trans g2)
def sp_still_heap (K : PySem.W.Frag) : Sp := fun vs H Q _ => ∃ n : Int, vs = [.int n] ∧ 0 ≤ n ∧ n < 2 ^ 700 ∧ ∀ (r : Addr) (H' : Hp), Same H H' → H r = none → H' r = some (.lst ((zrow n).map V.int)) → Q (.ref r) H'
theorem ok_still_heap (T : Txt K mg f_worths f_has_row f_has_other_sign f_Reader_init f_Reader_left f_in_step f_law_cell f_law_whole f_law_ends f_law_pieces f_law_behind f_weight f_still_heap f_law_alike f_law_in_step f_row_of f_weight_of_signs f_law_held f_shown f_Reader_feed f_written f_read f_law_refused f_law_fed f_law_stepped f_law c_StairError c_NoNumber c_NoSign c_NoEnd c_Reader d_worths d_has_row d_has_other_sign d_Reader_init d_Reader_left d_in_step d_law_cell d_law_whole d_law_ends d_law_pieces d_law_behind d_weight d_still_heap d_law_alike d_law_in_step d_row_of d_weight_of_signs d_law_held d_shown d_Reader_feed d_written d_read d_law_refused d_law_fed d_law_stepped d_law) : FnOk P w K mg base CX0 2 f_still_heap d_still_heap ["total"] (sp_still_heap K) := by
  refine T.F_still_heap.ok sc_still_heap (fun vs H Q E h => by revert h; unfold sp_still_heap; intro h; first | (obtain ⟨_, rfl, _⟩ := h; rfl) | (obtain ⟨_, _, rfl, _⟩ := h; rfl) | (obtain ⟨_, _, _, rfl, _⟩ := h; rfl) | (obtain ⟨_, _, _, _, rfl, _⟩ := h; rfl) | (obtain ⟨_, _, _, _, _, rfl, _⟩ := h; rfl) | (obtain ⟨_, _, _, _, _, _, rfl, _⟩ := h; rfl) | (obtain ⟨_, _, _, _, _, _, _, rfl, _⟩ := h; rfl) | (obtain ⟨_, _, _, _, _, _, _, _, rfl, _⟩ := h; rfl) | (obtain ⟨_, _, _, _, _, _, _, _, _, rfl, _⟩ := h; rfl) | (obtain ⟨_, _, _, _, _, _, _, _, _, _, rfl, _⟩ := h; rfl)) (fun cdv A outer s H vs Q E hr h => ?_)
  obtain ⟨n, rfl, hn0, hn, q⟩ := h
  refine ⟨_, (pss_cons (ps_set (i := 1) sc_still_heap.nd rfl (Or.inl rfl) (pe_lst pa_nil)) (pss_cons (ps_set (i := 2) sc_still_heap.nd rfl (Or.inl rfl) (pv 0)) (pss_cons (ps_for PassesOwn.never rfl (pi_rev rfl T.z_reversed (pa_cons (pe_call ((ok_worths (P := P) (w := w) (base := base) T).mono (by decide)) hr rfl T.m_worths T.F_worths.kp T.b_worths .nil pass0 (pa_cons (pe_op op_mul pe_int (pe_bm0 PySem.F.plainAttrs_int PySem.F.slot_int_bit_length PySem.F.type_int_bit_length mt_bits (pv 0))) pa_nil)) pa_nil)) (pg_name (i := 3) sc_still_heap.nd rfl (Or.inl rfl)) (pss_one (ps_if (pt_cmpR op_le (pv 3) (pv 2) (nomark _)) (pss_cons (ps_expr (pe_bm PySem.F.plainAttrs_list PySem.F.slot_list_append PySem.F.type_list_append mt_append (pv 1) (pa_cons pe_int pa_nil))) (pss_one (ps_aug (i := 2) sc_still_heap.nd rfl (Or.inl rfl) (pv 3) ip_sub))) (pss_one (ps_if (pt_tru (pv 1) (fun _ => rfl)) (pss_one (ps_expr (pe_bm PySem.F.plainAttrs_list PySem.F.slot_list_append PySem.F.type_list_append mt_append (pv 1) (pa_cons pe_int pa_nil)))) pss_nil))))) (pss_one (ps_ret (pe_lrev rfl rfl T.z_list rfl T.z_reversed (pa_cons (pv 1) pa_nil))))))), ?_⟩
  walk_at "S"
  refine ⟨Nat.zero_le _, fun r h0 => ?_⟩
  have s0 := same_new h0 (.lst [])
  walk_at "S"
  refine ⟨_, rfl, rfl, n, rfl, rfl, ?_⟩
  have hb := intBits_700 hn0 hn
  have hb2 := intBits_lt n hn0
  generalize Builtin.Int.intBits n = b at hb hb2
  refine r_I (.inl ⟨by decide, by decide⟩) ?_
  refine ⟨2 * b, by rw [Int.natCast_mul]; rfl, by omega, fun w H1 g1 hw0 hw => ?_⟩
  have hr1 : H1 r = some (.lst []) := g1 _ _ upd_same
  have hlt : n < Fb (2 * b) := Int.lt_of_lt_of_le hb2 (pow_Fb b)
  have nrw : r ≠ w := ne_of_none upd_same hw0
  refine ⟨w, _, rfl, SqL.of hw, for_rev (K := K) (xs := (wl (2 * b)).map V.int) (fun j σ H' => ∃ (k : Int) (hs : List Int) (o : Option V), σ = [some (.int n), some (.ref r), some (.int k), o] ∧ Same H H' ∧ H' w = some (.lst ((wl (2 * b)).map V.int)) ∧ H' r = some (.lst (hs.map V.int)) ∧ hs.length ≤ j ∧ 0 ≤ k ∧
      ((hs = [] ∧ k = n ∧ n < Fb (2 * b - j)) ∨ (hs ≠ [] ∧ ∃ i, n < Fb i ∧ Fb (i - 1) ≤ n ∧ zk i n = zk (2 * b - j) k ++ hs.reverse)))
      ⟨n, [], none, rfl, s0.trans g1, hw, hr1, Nat.le_refl _, hn0, .inl ⟨rfl, rfl, hlt⟩⟩ (fun j σ H' _ h => by obtain ⟨k, hs, o, _, _, e, _⟩ := h; exact SqL.of e) ?_ ?_⟩
  · rintro j x σ H2 hx ⟨k, hs, o, rfl, g2, e0, e1, hl, hk, ek⟩
    obtain ⟨hj, rfl⟩ := rev_at hx
    have ei : 2 * b - j = (2 * b - 1 - j) + 1 := by omega
    have ej : 2 * b - (j + 1) = 2 * b - 1 - j := by omega
    rw [ei] at ek
    walk_at "S"
    refine r_ite (fun c => ?_) (fun c => ?_)
    · walk_at "S"
      refine ⟨ty_lst e1, ?_⟩
      walk_at "S"
      refine r_append e1 (small2 (by rw [List.length_map]; omega)) ?_
      walk_at "S"
      refine ⟨k - Fb (2 * b - 1 - j), hs ++ [1], _, rfl, g2.upd h0 _, by rw [upd_ne nrw.symm]; exact e0, by rw [upd_same, List.map_append]; rfl, by rw [List.length_append, List.length_singleton]; omega, by omega, .inr ⟨by simp, ?_⟩⟩
      rw [ej]
      rcases ek with ⟨rfl, rfl, h1⟩ | ⟨_, i, h1, h2, h3⟩
      · exact ⟨2 * b - 1 - j + 1, h1, c, by rw [zk_succ, if_pos c]; simp⟩
      · refine ⟨i, h1, h2, ?_⟩
        rw [h3, zk_succ, if_pos c, List.reverse_append, List.append_assoc]; rfl
    · walk_at "S"
      refine r_truL (SqL.of e1) ?_
      rcases ek with ⟨rfl, rfl, h1⟩ | ⟨hne, i, h1, h2, h3⟩
      · refine iteF ?_
        walk_at "S"
        exact ⟨k, [], _, rfl, g2, e0, e1, Nat.zero_le _, hk, .inl ⟨rfl, rfl, by rw [ej]; omega⟩⟩
      · have ht : (!(hs.map V.int).isEmpty) = true := by
          cases hs with
          | nil => exact absurd rfl hne
          | cons a t => rfl
        rw [ht]
        refine iteT ?_
        walk_at "S"
        refine ⟨ty_lst e1, ?_⟩
        walk_at "S"
        refine r_append e1 (small2 (by rw [List.length_map]; omega)) ?_
        walk_at "S"
        refine ⟨k, hs ++ [0], _, rfl, g2.upd h0 _, by rw [upd_ne nrw.symm]; exact e0, by rw [upd_same, List.map_append]; rfl, by rw [List.length_append, List.length_singleton]; omega, hk, .inr ⟨by simp, i, h1, h2, ?_⟩⟩
        rw [h3, zk_succ, if_neg c, ej, List.reverse_append, List.append_assoc]; rfl
  · rintro σ H2 ⟨k, hs, o, rfl, g2, e0, e1, hl, hk, ek⟩
    rw [List.length_map, wl_len, Nat.sub_self] at ek
    have ez : hs.reverse = zrow n := by
      rcases ek with ⟨rfl, rfl, h1⟩ | ⟨hne, i, h1, h2, h3⟩
      · have : k = 0 := by have h2 : k < 1 := h1; omega
        rw [this, zrow_zero]; rfl
      · rw [← zrow_zk hn0 h1 (.inr h2), h3]; rfl
    walk_at "S"
    refine ⟨r, _, rfl, SqL.of e1, fun p hp => ?_⟩
    refine q p _ (g2.trans (same_new hp _)) (g2.free hp) ?_
    rw [upd_same, ← List.map_reverse, ez]
def sp_law_alike (K : PySem.W.Frag) : Sp := fun vs H Q _ => ∃ (a b : Addr) (fs ds : List Int), vs = [.ref a, .ref b] ∧ H a = some (.lst (fs.map V.int)) ∧ SqL K H b (ds.map V.int) ∧ fs.length ≤ 10000 ∧ ds.length ≤ 10000 ∧ Q (.bl (decide (fs = ds))) H
theorem do_law_alike {K : PySem.W.Frag} {H : Hp} {Q : VK} {E : XK} {a b : Addr} {fs ds : List Int} (h1 : H a = some (.lst (fs.map V.int))) (h2 : SqL K H b (ds.map V.int)) (e : fs = ds) (h3 : fs.length ≤ 10000) (q : Q (.bl true) H) : sp_law_alike K [.ref a, .ref b] H Q E :=
  ⟨a, b, fs, ds, rfl, h1, h2, h3, by rw [← e]; exact h3, by rw [decide_eq_true e]; exact q⟩
theorem ok_law_alike (T : Txt K mg f_worths f_has_row f_has_other_sign f_Reader_init f_Reader_left f_in_step f_law_cell f_law_whole f_law_ends f_law_pieces f_law_behind f_weight f_still_heap f_law_alike f_law_in_step f_row_of f_weight_of_signs f_law_held f_shown f_Reader_feed f_written f_read f_law_refused f_law_fed f_law_stepped f_law c_StairError c_NoNumber c_NoSign c_NoEnd c_Reader d_worths d_has_row d_has_other_sign d_Reader_init d_Reader_left d_in_step d_law_cell d_law_whole d_law_ends d_law_pieces d_law_behind d_weight d_still_heap d_law_alike d_law_in_step d_row_of d_weight_of_signs d_law_held d_shown d_Reader_feed d_written d_read d_law_refused d_law_fed d_law_stepped d_law) : FnOk P w K mg base CX0 2 f_law_alike d_law_alike ["_law_found", "_law_due"] (sp_law_alike K) := by
  refine T.F_law_alike.ok sc_law_alike (fun vs H Q E h => by revert h; unfold sp_law_alike; intro h; first | (obtain ⟨_, rfl, _⟩ := h; rfl) | (obtain ⟨_, _, rfl, _⟩ := h; rfl) | (obtain ⟨_, _, _, rfl, _⟩ := h; rfl) | (obtain ⟨_, _, _, _, rfl, _⟩ := h; rfl) | (obtain ⟨_, _, _, _, _, rfl, _⟩ := h; rfl) | (obtain ⟨_, _, _, _, _, _, rfl, _⟩ := h; rfl) | (obtain ⟨_, _, _, _, _, _, _, rfl, _⟩ := h; rfl) | (obtain ⟨_, _, _, _, _, _, _, _, rfl, _⟩ := h; rfl) | (obtain ⟨_, _, _, _, _, _, _, _, _, rfl, _⟩ := h; rfl) | (obtain ⟨_, _, _, _, _, _, _, _, _, _, rfl, _⟩ := h; rfl)) (fun cdv A outer s H vs Q E hr h => ?_)
  obtain ⟨a, b, fs, ds, rfl, h1, h2, l1, l2, q⟩ := h
  have h1' : SqL K H a (fs.map V.int) := SqL.of h1
  refine ⟨_, (pss_cons (ps_if (PW.pt (pw_or (pt_not (pt_val (pe_callB call_isi rfl T.z_isinstance bt_isinstance (pa_cons (pv 0) (pa_cons (pe_bltn (v := .ty "list") rfl T.z_list bt_list rfl) pa_nil))))) (pw_or1 (pt_cmpR op_ne (pe_callB c_len rfl T.z_len bt_len (pa_cons (pv 0) pa_nil)) (pe_callB c_len rfl T.z_len bt_len (pa_cons (pv 1) pa_nil)) (nomark _))))) (pss_one (ps_ret pe_bl)) pss_nil) (pss_cons (ps_for PassesOwn.never rfl (pi_range1 rfl T.z_range (pa_cons (pe_callB c_len rfl T.z_len bt_len (pa_cons (pv 1) pa_nil)) pa_nil)) (pg_name (i := 2) sc_law_alike.nd rfl (Or.inl rfl)) (pss_one (ps_if (PW.pt (pw_or (pt_not (pt_val (pe_call ((ok_law_whole (P := P) (w := w) (base := base) T).mono (by decide)) hr rfl T.m_law_whole T.F_law_whole.kp T.b_law_whole .nil pass0 (pa_cons (pe_ix ix_list (pv 0) (pv 2) (fun _ _ => rfl)) pa_nil)))) (pw_or1 (pt_cmpR op_ne (pe_ix ix_list (pv 0) (pv 2) (fun _ _ => rfl)) (pe_ix ix_list (pv 1) (pv 2) (fun _ _ => rfl)) (nomark _))))) (pss_one (ps_ret pe_bl)) pss_nil))) (pss_one (ps_ret pe_bl)))), ?_⟩
  walk_at "S"
  refine r_isi (.lst h1) T.i_ll ?_
  walk_at "S"
  refine iteF ?_
  walk_at "S"
  rw [List.length_map, List.length_map]
  refine r_iteNI (fun c => ?_) (fun c => ?_)
  · walk_at "S"
    rw [decide_eq_false (fun e => c (by rw [e]))] at q
    exact q
  have c' : fs.length = ds.length := by omega
  refine r_seq ?_
  refine ⟨_, rfl, b, _, rfl, .inl h2, _, rfl, by omega, by rw [List.length_map]; omega, for_range (fun i σ H' => H' = H ∧ ∃ o, σ = [some (.ref a), some (.ref b), o] ∧ fs.take i = ds.take i) ⟨rfl, none, rfl, rfl⟩ ?_ ?_⟩
  · rintro i σ H' hi ⟨rfl, o, rfl, e⟩
    rw [List.length_map] at hi
    have hi' : i < ds.length := by omega
    have ei : (0 + (i : Int)).toNat = i := by omega
    walk_at "S"
    refine r_ixL h1' (at_int (by omega) (by omega)) ?_
    walk_at "S"
    refine ⟨_, rfl, ?_⟩
    walk_at "S"
    refine iteF ?_
    walk_at "S"
    refine r_ixL h1' (at_int (by omega) (by omega)) ?_
    walk_at "S"
    refine r_ixL h2 (at_int (by omega) (by omega)) ?_
    rw [ei]
    walk_at "S"
    refine r_iteNI (fun c2 => ?_) (fun c2 => ?_)
    · walk_at "S"
      rw [decide_eq_false (fun e => c2 (by rw [e]))] at q
      exact q
    · walk_at "S"
      refine ⟨rfl, _, rfl, ?_⟩
      rw [List.take_succ, List.take_succ, e]
      rw [List.getD_eq_getElem?_getD, List.getD_eq_getElem?_getD, List.getElem?_eq_getElem (by omega), List.getElem?_eq_getElem hi'] at c2
      rw [List.getElem?_eq_getElem (by omega), List.getElem?_eq_getElem hi']
      have c3 : fs[i] = ds[i] := c2
      rw [c3]
  · rintro σ H' ⟨rfl, o, rfl, e⟩
    walk_at "S"
    rw [List.length_map] at e
    have e' : fs = ds := by
      have h1 : fs.take ds.length = fs := by rw [← c', List.take_length]
      have h2 : ds.take ((ds.length : Int)).toNat = ds := by rw [Int.toNat_natCast, List.take_length]
      rw [Int.toNat_natCast] at e
      rw [← h1, e, List.take_length]
    rw [decide_eq_true e'] at q
    exact q
def sp_law_in_step (K : PySem.W.Frag) : Sp := fun vs H Q _ => ∃ (l : List Nat) (b : Nat), vs = [.str (tx l), .int (b : Int)] ∧ b ≤ l.length ∧ l.length ≤ 7900 ∧ Q (.bl true) H
theorem ok_law_in_step (T : Txt K mg f_worths f_has_row f_has_other_sign f_Reader_init f_Reader_left f_in_step f_law_cell f_law_whole f_law_ends f_law_pieces f_law_behind f_weight f_still_heap f_law_alike f_law_in_step f_row_of f_weight_of_signs f_law_held f_shown f_Reader_feed f_written f_read f_law_refused f_law_fed f_law_stepped f_law c_StairError c_NoNumber c_NoSign c_NoEnd c_Reader d_worths d_has_row d_has_other_sign d_Reader_init d_Reader_left d_in_step d_law_cell d_law_whole d_law_ends d_law_pieces d_law_behind d_weight d_still_heap d_law_alike d_law_in_step d_row_of d_weight_of_signs d_law_held d_shown d_Reader_feed d_written d_read d_law_refused d_law_fed d_law_stepped d_law) : FnOk P w K mg base CX0 2 f_law_in_step d_law_in_step ["_law_text", "_law_place"] (sp_law_in_step K) := by
  refine T.F_law_in_step.ok sc_law_in_step (fun vs H Q E h => by revert h; unfold sp_law_in_step; intro h; first | (obtain ⟨_, rfl, _⟩ := h; rfl) | (obtain ⟨_, _, rfl, _⟩ := h; rfl) | (obtain ⟨_, _, _, rfl, _⟩ := h; rfl) | (obtain ⟨_, _, _, _, rfl, _⟩ := h; rfl) | (obtain ⟨_, _, _, _, _, rfl, _⟩ := h; rfl) | (obtain ⟨_, _, _, _, _, _, rfl, _⟩ := h; rfl) | (obtain ⟨_, _, _, _, _, _, _, rfl, _⟩ := h; rfl) | (obtain ⟨_, _, _, _, _, _, _, _, rfl, _⟩ := h; rfl) | (obtain ⟨_, _, _, _, _, _, _, _, _, rfl, _⟩ := h; rfl) | (obtain ⟨_, _, _, _, _, _, _, _, _, _, rfl, _⟩ := h; rfl)) (fun cdv A outer s H vs Q E hr h => ?_)
  obtain ⟨l, b, rfl, hb, hl, q⟩ := h
  refine ⟨_, (pss_cons (ps_set (i := 2) sc_law_in_step.nd rfl (Or.inl rfl) (pe_call ((ok_law_behind (P := P) (w := w) (base := base) T).mono (by decide)) hr rfl T.m_law_behind T.F_law_behind.kp T.b_law_behind .nil pass0 (pa_cons (pv 0) (pa_cons (pv 1) pa_nil)))) (pss_cons (ps_set (i := 3) sc_law_in_step.nd rfl (Or.inl rfl) (pe_call ((ok_in_step (P := P) (w := w) (base := base) T).mono (by decide)) hr rfl T.m_in_step T.F_in_step.kp T.b_in_step .nil pass0 (pa_cons (pv 0) (pa_cons (pv 1) pa_nil)))) (pss_cons (ps_if (pt_cmpR op_isN (pv 2) pe_non (nomark _)) (pss_one (ps_ret (pe_cmpR op_isN (pv 3) pe_non (nomark _)))) pss_nil) (pss_one (ps_ret (pe_and (pe_call ((ok_law_whole (P := P) (w := w) (base := base) T).mono (by decide)) hr rfl T.m_law_whole T.F_law_whole.kp T.b_law_whole .nil pass0 (pa_cons (pv 3) pa_nil)) (pe_one (pe_cmpR op_eq (pv 3) (pv 2) (nomark _))))))))), ?_⟩
  walk_at "S"
  refine ⟨l, b, rfl, hb, hl, ?_⟩
  walk_at "S"
  refine ⟨l, b, rfl, hb, ?_⟩
  unfold stepV
  by_cases c : findN l [46, 111, 111] b < 0
  · rw [if_pos c]
    walk_at "S"
    refine ⟨rfl, ?_⟩
    walk_at "S"
    refine iteT ?_
    walk_at "S"
    refine ⟨rfl, ?_⟩
    walk_at "S"
    exact q
  · rw [if_neg c]
    walk_at "S"
    refine ⟨rfl, ?_⟩
    walk_at "S"
    refine iteF ?_
    walk_at "S"
    refine ⟨_, rfl, ?_⟩
    walk_at "S"
    refine iteT ?_
    walk_at "S"
    rw [decide_eq_true rfl]
    exact q
def sp_row_of (K : PySem.W.Frag) (mg : Str → Option Value) : Sp := fun vs H Q E => ∃ x, vs = [x] ∧ ((∃ n : Int, x = .int n ∧ Num n ∧ ∀ (p : Addr) (H' : Hp), Same H H' → H p = none → H' p = some (.lst ((zrow n).map V.int)) → Q (.ref p) H') ∨
  (((∃ n : Int, x = .int n ∧ ¬ Num n) ∨ Thing H x) ∧ ∀ cls, mg "NoNumber" = some cls → E cls none H))
theorem ok_row_of (T : Txt K mg f_worths f_has_row f_has_other_sign f_Reader_init f_Reader_left f_in_step f_law_cell f_law_whole f_law_ends f_law_pieces f_law_behind f_weight f_still_heap f_law_alike f_law_in_step f_row_of f_weight_of_signs f_law_held f_shown f_Reader_feed f_written f_read f_law_refused f_law_fed f_law_stepped f_law c_StairError c_NoNumber c_NoSign c_NoEnd c_Reader d_worths d_has_row d_has_other_sign d_Reader_init d_Reader_left d_in_step d_law_cell d_law_whole d_law_ends d_law_pieces d_law_behind d_weight d_still_heap d_law_alike d_law_in_step d_row_of d_weight_of_signs d_law_held d_shown d_Reader_feed d_written d_read d_law_refused d_law_fed d_law_stepped d_law) : FnOk P w K mg base (CXf P w) 3 f_row_of d_row_of ["number"] (sp_row_of K mg) := by
  refine T.F_row_of.okx sc_row_of (fun vs H Q E h => by revert h; unfold sp_row_of; intro h; first | (obtain ⟨_, rfl, _⟩ := h; rfl) | (obtain ⟨_, _, rfl, _⟩ := h; rfl) | (obtain ⟨_, _, _, rfl, _⟩ := h; rfl) | (obtain ⟨_, _, _, _, rfl, _⟩ := h; rfl) | (obtain ⟨_, _, _, _, _, rfl, _⟩ := h; rfl) | (obtain ⟨_, _, _, _, _, _, rfl, _⟩ := h; rfl) | (obtain ⟨_, _, _, _, _, _, _, rfl, _⟩ := h; rfl) | (obtain ⟨_, _, _, _, _, _, _, _, rfl, _⟩ := h; rfl) | (obtain ⟨_, _, _, _, _, _, _, _, _, rfl, _⟩ := h; rfl) | (obtain ⟨_, _, _, _, _, _, _, _, _, _, rfl, _⟩ := h; rfl)) (fun cdv A outer s H vs Q E hr h => ?_)
  obtain ⟨x, rfl, h⟩ := h
  refine ⟨_, (pss_cons (ps_if (pt_not (pt_val (pe_call ((ok_has_row (P := P) (w := w) (base := base) T).mono (by decide)) hr rfl T.m_has_row T.F_has_row.kp T.b_has_row .nil pass0 (pa_cons (pv 0) pa_nil)))) (pss_one (ps_raise leaves_of rfl T.m_NoNumber T.q_NoNumber PySem.F.excBase_ValueError (by decide +kernel) PySem.F.excBase_ValueError (pa_cons pe_str pa_nil))) pss_nil) (pss_one (ps_ret (pe_call ((ok_still_heap (P := P) (w := w) (base := base) T).mono (by decide)) hr rfl T.m_still_heap T.F_still_heap.kp T.b_still_heap .nil pass0 (pa_cons (pv 0) pa_nil))))), ?_⟩
  rcases h with ⟨n, rfl, hn, q⟩ | ⟨h, q⟩
  · walk_at "S"
    refine ⟨_, rfl, .inl ⟨n, rfl, fun _ => ?_, fun z => absurd hn z⟩⟩
    walk_at "S"
    refine iteF ?_
    walk_at "S"
    exact ⟨n, rfl, hn.1, Int.lt_trans hn.2 p60, q⟩
  · walk_at "S"
    rcases h with ⟨n, rfl, hn⟩ | h
    · refine ⟨_, rfl, .inl ⟨n, rfl, fun z => absurd z hn, fun _ => ?_⟩⟩
      walk_at "S"
      refine iteT ?_
      refine r_raise ?_
      walk_at "S"
      exact ⟨by show 1 ≤ sizeLine; decide, q _ T.m_NoNumber⟩
    · refine ⟨_, rfl, .inr ⟨h, ?_⟩⟩
      walk_at "S"
      refine iteT ?_
      refine r_raise ?_
      walk_at "S"
      exact ⟨by show 1 ≤ sizeLine; decide, q _ T.m_NoNumber⟩
def sp_weight_of_signs (K : PySem.W.Frag) : Sp := fun vs H Q _ => ∃ l : List Nat, vs = [.str (tx l)] ∧ l.length ≤ 8000 ∧ ∀ H', Same H H' → Q (.int (wt (l.map bit))) H'
theorem ok_weight_of_signs (T : Txt K mg f_worths f_has_row f_has_other_sign f_Reader_init f_Reader_left f_in_step f_law_cell f_law_whole f_law_ends f_law_pieces f_law_behind f_weight f_still_heap f_law_alike f_law_in_step f_row_of f_weight_of_signs f_law_held f_shown f_Reader_feed f_written f_read f_law_refused f_law_fed f_law_stepped f_law c_StairError c_NoNumber c_NoSign c_NoEnd c_Reader d_worths d_has_row d_has_other_sign d_Reader_init d_Reader_left d_in_step d_law_cell d_law_whole d_law_ends d_law_pieces d_law_behind d_weight d_still_heap d_law_alike d_law_in_step d_row_of d_weight_of_signs d_law_held d_shown d_Reader_feed d_written d_read d_law_refused d_law_fed d_law_stepped d_law) : FnOk P w K mg base CX0 3 f_weight_of_signs d_weight_of_signs ["signs"] (sp_weight_of_signs K) := by
  refine T.F_weight_of_signs.ok sc_weight_of_signs (fun vs H Q E h => by revert h; unfold sp_weight_of_signs; intro h; first | (obtain ⟨_, rfl, _⟩ := h; rfl) | (obtain ⟨_, _, rfl, _⟩ := h; rfl) | (obtain ⟨_, _, _, rfl, _⟩ := h; rfl) | (obtain ⟨_, _, _, _, rfl, _⟩ := h; rfl) | (obtain ⟨_, _, _, _, _, rfl, _⟩ := h; rfl) | (obtain ⟨_, _, _, _, _, _, rfl, _⟩ := h; rfl) | (obtain ⟨_, _, _, _, _, _, _, rfl, _⟩ := h; rfl) | (obtain ⟨_, _, _, _, _, _, _, _, rfl, _⟩ := h; rfl) | (obtain ⟨_, _, _, _, _, _, _, _, _, rfl, _⟩ := h; rfl) | (obtain ⟨_, _, _, _, _, _, _, _, _, _, rfl, _⟩ := h; rfl)) (fun cdv A outer s H vs Q E hr h => ?_)
  obtain ⟨l, rfl, hl, q⟩ := h
  refine ⟨_, (pss_one (ps_ret (pe_call ((ok_weight (P := P) (w := w) (base := base) T).mono (by decide)) hr rfl T.m_weight T.F_weight.kp T.b_weight .nil pass0 (pa_cons (pe_comp (N' := ["sign"]) rfl (comp_plain rfl (by decide) (by decide) (by decide)) (pi_str (pv 0)) (fun _ _ _ _ => (pg_name (i := 0) (show List.Nodup (["sign"] : List Str) by decide +kernel) rfl (Or.inl rfl) (Or.inr rfl))) (fun _ _ _ _ => pifs_nil) (fun _ _ _ _ => (pe_ifExp (pt_cmpR op_eq (pv 0) pe_str (nomark _)) pe_int pe_int))) pa_nil)))), ?_⟩
  walk_at "S"
  refine r_istr ?_
  walk_at "S"
  refine ⟨l, rfl, fun D hD => comp_str (fun i σ ys H' => Same H H' ∧ (∃ o, σ = [o]) ∧ ys = ((l.take i).map bit).map V.int ∧ H' D = some (.lst ys))
    ⟨same_new hD _, ⟨none, rfl⟩, rfl, upd_same⟩ ?_ ?_ ?_⟩
  · rintro i σ ys H' hi ⟨g, _, rfl, e⟩
    exact ⟨e, small2 (by rw [List.length_map, List.length_map, List.length_take]; omega)⟩
  · rintro i c σ ys H' hc ⟨g, ⟨o, rfl⟩, rfl, e⟩
    have hi := (List.getElem?_eq_some_iff.mp hc).1
    have fin : ∀ u : Int, u = bit c → H' D = some (.lst (((l.take i).map bit).map V.int)) ∧ ∃ m', m' < l.length - i ∧ m' = l.length - (i + 1) ∧ i + 1 ≤ l.length ∧ Same H (upd H' D (.lst (((l.take i).map bit).map V.int ++ [.int u]))) ∧ (∃ o', [some (V.str (tx [c]))] = [o']) ∧ ((l.take i).map bit).map V.int ++ [V.int u] = ((l.take (i + 1)).map bit).map V.int ∧ upd H' D (.lst (((l.take i).map bit).map V.int ++ [.int u])) D = some (.lst (((l.take i).map bit).map V.int ++ [.int u])) := fun u hu => by
      refine ⟨e, nxt hi ⟨g.upd hD _, ⟨_, rfl⟩, ?_, upd_same⟩⟩
      rw [List.take_succ, hc, List.map_append, List.map_append, hu]; rfl
    refine r_one ?_
    walk_at "S"
    by_cases c1 : c = 111
    · rw [decide_eq_true (show V.str (tx [c]) = V.str "o" by rw [c1, tx_o])]
      refine iteT ?_
      walk_at "S"
      exact fin 1 (by unfold bit; rw [if_pos c1])
    · rw [decide_eq_false (show ¬ V.str (tx [c]) = V.str "o" by rw [tx_o]; intro z; have := tx_inj (V.str.inj z); simp at this; exact c1 this)]
      refine iteF ?_
      walk_at "S"
      exact fin 0 (by unfold bit; rw [if_neg c1])
  · rintro σ ys H2 ⟨g2, _, rfl, eD⟩
    rw [List.take_length] at eD
    walk_at "S"
    refine ⟨D, l.map bit, rfl, .inl eD, by rw [List.length_map]; exact hl, fun x hx => ?_, fun H3 g3 => q H3 (g2.trans g3)⟩
    obtain ⟨c, _, rfl⟩ := List.mem_map.mp hx
    unfold bit
    split
    · exact ⟨by decide, by decide⟩
    · exact ⟨by decide, by decide⟩
def sp_law_held (K : PySem.W.Frag) : Sp := fun vs H Q _ => ∃ (z b : Addr) (as : List (Addr × List Int)) (ms : List Int), vs = [.ref z, .ref b] ∧ H z = some (.lst (as.map fun y => V.ref y.1)) ∧ Hd H as ∧ SqL K H b (ms.map V.int) ∧ (as.map Prod.snd).flatten = ms ∧ as.length ≤ 64 ∧ ms.length ≤ 8000 ∧ ∀ H', Same H H' → Q (.bl true) H'
theorem ok_law_held (T : Txt K mg f_worths f_has_row f_has_other_sign f_Reader_init f_Reader_left f_in_step f_law_cell f_law_whole f_law_ends f_law_pieces f_law_behind f_weight f_still_heap f_law_alike f_law_in_step f_row_of f_weight_of_signs f_law_held f_shown f_Reader_feed f_written f_read f_law_refused f_law_fed f_law_stepped f_law c_StairError c_NoNumber c_NoSign c_NoEnd c_Reader d_worths d_has_row d_has_other_sign d_Reader_init d_Reader_left d_in_step d_law_cell d_law_whole d_law_ends d_law_pieces d_law_behind d_weight d_still_heap d_law_alike d_law_in_step d_row_of d_weight_of_signs d_law_held d_shown d_Reader_feed d_written d_read d_law_refused d_law_fed d_law_stepped d_law) : FnOk P w K mg base CX0 3 f_law_held d_law_held ["_law_held_here", "_law_numbers"] (sp_law_held K) := by
  refine T.F_law_held.ok sc_law_held (fun vs H Q E h => by revert h; unfold sp_law_held; intro h; first | (obtain ⟨_, rfl, _⟩ := h; rfl) | (obtain ⟨_, _, rfl, _⟩ := h; rfl) | (obtain ⟨_, _, _, rfl, _⟩ := h; rfl) | (obtain ⟨_, _, _, _, rfl, _⟩ := h; rfl) | (obtain ⟨_, _, _, _, _, rfl, _⟩ := h; rfl) | (obtain ⟨_, _, _, _, _, _, rfl, _⟩ := h; rfl) | (obtain ⟨_, _, _, _, _, _, _, rfl, _⟩ := h; rfl) | (obtain ⟨_, _, _, _, _, _, _, _, rfl, _⟩ := h; rfl) | (obtain ⟨_, _, _, _, _, _, _, _, _, rfl, _⟩ := h; rfl) | (obtain ⟨_, _, _, _, _, _, _, _, _, _, rfl, _⟩ := h; rfl)) (fun cdv A outer s H vs Q E hr h => ?_)
  obtain ⟨z, b, as, ms, rfl, ez, hH, hB, hfl, hal, hml, q⟩ := h
  refine ⟨_, (pss_cons (ps_set (i := 2) sc_law_held.nd rfl (Or.inl rfl) (pe_lst pa_nil)) (pss_cons (ps_for PassesOwn.never rfl (pi_range1 rfl T.z_range (pa_cons (pe_callB c_len rfl T.z_len bt_len (pa_cons (pv 0) pa_nil)) pa_nil)) (pg_name (i := 3) sc_law_held.nd rfl (Or.inl rfl)) (pss_one (ps_if (pt_cmpR op_eq (pe_op op_mod (pv 3) pe_int) pe_int (nomark _)) (pss_cons (ps_if (pt_cmpR (op_neL hr.units) (pe_slice sl_list (pe_ix ix_list (pv 0) (pv 3) (fun _ _ => rfl)) (po_some (pe_op op_sub (pe_callB c_len rfl T.z_len bt_len (pa_cons (pe_ix ix_list (pv 0) (pv 3) (fun _ _ => rfl)) pa_nil)) pe_int)) po_none) (pe_lst (pa_cons pe_int pa_nil)) (nomark _)) (pss_one (ps_ret pe_bl)) pss_nil) (pss_one (ps_set (i := 2) sc_law_held.nd rfl (Or.inl rfl) (pe_op op_cat (pv 2) (pe_slice sl_list (pe_ix ix_list (pv 0) (pv 3) (fun _ _ => rfl)) po_none (po_some (pe_op op_sub (pe_callB c_len rfl T.z_len bt_len (pa_cons (pe_ix ix_list (pv 0) (pv 3) (fun _ _ => rfl)) pa_nil)) pe_int))))))) (pss_one (ps_set (i := 2) sc_law_held.nd rfl (Or.inl rfl) (pe_op op_cat (pv 2) (pe_ix ix_list (pv 0) (pv 3) (fun _ _ => rfl)))))))) (pss_one (ps_ret (pe_call ((ok_law_alike (P := P) (w := w) (base := base) T).mono (by decide)) hr rfl T.m_law_alike T.F_law_alike.kp T.b_law_alike .nil pass0 (pa_cons (pv 2) (pa_cons (pv 1) pa_nil))))))), ?_⟩
  walk_at "S"
  refine ⟨Nat.zero_le _, fun t ht => ?_⟩
  have s1 := same_new ht (.lst [])
  have et : upd H t (.lst []) t = some (.lst (([] : List Int).map V.int)) := upd_same
  generalize upd H t (.lst []) = H1 at s1 et
  have ez1 := s1 _ _ ez
  walk_at "S"
  refine r_for (r_rng1 ?_)
  walk_at "S"
  rw [List.length_map]
  refine ⟨_, rfl, by omega, by omega, for_range (fun i σ H' => ∃ (t : Addr) (o : Option V), σ = [some (.ref z), some (.ref b), some (.ref t), o] ∧ Same H H' ∧ H' t = some (.lst (((as.take i).map Prod.snd).flatten.map V.int))) ⟨t, none, rfl, s1, et⟩ ?_ ?_⟩
  · clear s1 et ez1 ht t
    rintro i σ H2 hi ⟨t, o, rfl, g, et⟩
    have hi' : i < as.length := by omega
    have hy : as[i]? = some as[i] := List.getElem?_eq_getElem hi'
    generalize as[i] = y at hy
    have hyl := hH i _ hy
    have hnx : ((as.take (i + 1)).map Prod.snd).flatten = ((as.take i).map Prod.snd).flatten ++ y.2 := by rw [List.take_succ, hy, List.map_append, List.flatten_append]; simp
    have hlen : (((as.take i).map Prod.snd).flatten ++ y.2).length ≤ ms.length := by
      rw [← hnx, ← hfl]
      have e := List.take_append_drop (i + 1) as
      have e2 : (as.map Prod.snd).flatten = ((as.take (i + 1)).map Prod.snd).flatten ++ ((as.drop (i + 1)).map Prod.snd).flatten := by rw [← List.flatten_append, ← List.map_append, e]
      rw [e2, List.length_append]; omega
    rw [List.length_append] at hlen
    have ez2 := g _ _ ez
    replace hyl := g _ _ hyl
    rw [show (0 + (i : Int)) = (i : Int) by omega]
    have hat : atI (as.map fun y => V.ref y.1) (i : Int) = some (.ref y.1) := atI_nat (by rw [List.getElem?_map, hy]; rfl)
    walk_at "S"
    refine r_I (by decide) ?_
    walk_at "S"
    refine r_iteI (fun c => ?_) (fun c => ?_)
    · rw [if_pos (show i % 3 = 1 by omega)] at hyl
      have hk : ((((y.2 ++ [7]).map V.int).length : Nat) : Int) - 1 = (y.2.length : Int) := by simp
      have hl7 : y.2.length ≤ (y.2 ++ [7]).length := by simp
      walk_at "S"
      refine r_ixL (SqL.of ez2) hat ?_
      walk_at "S"
      refine r_ixL (SqL.of ez2) hat ?_
      walk_at "S"
      rw [hk]
      refine r_slL (SqL.of hyl) (fun p1 hp1 => ?_)
      rw [cut_fromI _ _ hl7, List.drop_left]
      have s3 := same_new hp1 (.lst (([7] : List Int).map V.int))
      have e1 : upd H2 p1 (.lst (([7] : List Int).map V.int)) p1 = some (.lst (([7] : List Int).map V.int)) := upd_same
      generalize upd H2 p1 (.lst (([7] : List Int).map V.int)) = H3 at s3 e1
      replace g := g.trans s3
      replace et := s3 _ _ et
      replace ez2 := s3 _ _ ez2
      replace hyl := s3 _ _ hyl
      walk_at "S"
      refine ⟨(by show 1 ≤ sizeLine; decide), fun p2 hp2 => ?_⟩
      have s4 := same_new hp2 (.lst [.int 7])
      have e2 : upd H3 p2 (.lst [.int 7]) p2 = some (.lst (([7] : List Int).map V.int)) := upd_same
      generalize upd H3 p2 (.lst [.int 7]) = H4 at s4 e2
      replace g := g.trans s4
      replace et := s4 _ _ et
      replace ez2 := s4 _ _ ez2
      replace hyl := s4 _ _ hyl
      replace e1 := s4 _ _ e1
      walk_at "S"
      refine r_neL (SqL.of e1) (SqL.of e2) ?_
      rw [decide_eq_true (rfl : ([7] : List Int) = [7])]
      walk_at "S"
      refine iteF ?_
      walk_at "S"
      refine r_ixL (SqL.of ez2) hat ?_
      walk_at "S"
      refine r_ixL (SqL.of ez2) hat ?_
      walk_at "S"
      rw [hk]
      refine r_slL (SqL.of hyl) (fun p3 hp3 => ?_)
      rw [cut_toI _ _ hl7, List.take_left]
      have s5 := same_new hp3 (.lst (y.2.map V.int))
      have e3 : upd H4 p3 (.lst (y.2.map V.int)) p3 = some (.lst (y.2.map V.int)) := upd_same
      generalize upd H4 p3 (.lst (y.2.map V.int)) = H5 at s5 e3
      replace g := g.trans s5
      replace et := s5 _ _ et
      walk_at "S"
      refine r_cat et e3 (Nat.le_of_lt (small2 (by rw [List.length_map, List.length_map]; omega))) (fun t2 ht2 => ?_)
      walk_at "S"
      refine ⟨t2, _, rfl, g.trans (same_new ht2 _), ?_⟩
      rw [upd_same, hnx, List.map_append]
    · rw [if_neg (show ¬ i % 3 = 1 by omega)] at hyl
      walk_at "S"
      refine r_ixL (SqL.of ez2) hat ?_
      walk_at "S"
      refine r_cat et hyl (Nat.le_of_lt (small2 (by rw [List.length_map, List.length_map]; omega))) (fun t2 ht2 => ?_)
      walk_at "S"
      refine ⟨t2, _, rfl, g.trans (same_new ht2 _), ?_⟩
      rw [upd_same, hnx, List.map_append]
  · clear s1 et ez1 ht t
    rintro σ H2 ⟨t, o, rfl, g, et⟩
    rw [Int.toNat_natCast, List.take_length, hfl] at et
    walk_at "S"
    exact do_law_alike (fs := ms) (ds := ms) et (g.seq hB) rfl (by omega) (q _ g)
def sp_shown (K : PySem.W.Frag) (mg : Str → Option Value) : Sp := fun vs H Q E => ∃ x, vs = [x] ∧ ((∃ n : Int, x = .int n ∧ 1 ≤ n ∧ n < 10 ^ 60 ∧ ∀ H', Same H H' → Q (.str (tx (txt n))) H') ∨ (Bad H x ∧ ∀ cls H', mg "NoNumber" = some cls → Same H H' → E cls none H'))
theorem ok_shown (T : Txt K mg f_worths f_has_row f_has_other_sign f_Reader_init f_Reader_left f_in_step f_law_cell f_law_whole f_law_ends f_law_pieces f_law_behind f_weight f_still_heap f_law_alike f_law_in_step f_row_of f_weight_of_signs f_law_held f_shown f_Reader_feed f_written f_read f_law_refused f_law_fed f_law_stepped f_law c_StairError c_NoNumber c_NoSign c_NoEnd c_Reader d_worths d_has_row d_has_other_sign d_Reader_init d_Reader_left d_in_step d_law_cell d_law_whole d_law_ends d_law_pieces d_law_behind d_weight d_still_heap d_law_alike d_law_in_step d_row_of d_weight_of_signs d_law_held d_shown d_Reader_feed d_written d_read d_law_refused d_law_fed d_law_stepped d_law) : FnOk P w K mg base (CXf P w) 4 f_shown d_shown ["number"] (sp_shown K mg) := by
  refine T.F_shown.okx sc_shown (fun vs H Q E h => by revert h; unfold sp_shown; intro h; first | (obtain ⟨_, rfl, _⟩ := h; rfl) | (obtain ⟨_, _, rfl, _⟩ := h; rfl) | (obtain ⟨_, _, _, rfl, _⟩ := h; rfl) | (obtain ⟨_, _, _, _, rfl, _⟩ := h; rfl) | (obtain ⟨_, _, _, _, _, rfl, _⟩ := h; rfl) | (obtain ⟨_, _, _, _, _, _, rfl, _⟩ := h; rfl) | (obtain ⟨_, _, _, _, _, _, _, rfl, _⟩ := h; rfl) | (obtain ⟨_, _, _, _, _, _, _, _, rfl, _⟩ := h; rfl) | (obtain ⟨_, _, _, _, _, _, _, _, _, rfl, _⟩ := h; rfl) | (obtain ⟨_, _, _, _, _, _, _, _, _, _, rfl, _⟩ := h; rfl)) (fun cdv A outer s H vs Q E hr h => ?_)
  obtain ⟨x, rfl, h⟩ := h
  refine ⟨_, (pss_cons (ps_set (i := 1) sc_shown.nd rfl (Or.inl rfl) (pe_call ((ok_row_of (P := P) (w := w) (base := base) T).mono (by decide)) hr rfl T.m_row_of T.F_row_of.kp T.b_row_of .nil (leaves_of.pass fun _ _ _ z => z) (pa_cons (pv 0) pa_nil))) (pss_cons (ps_if (pt_not (pt_tru (pv 1) (fun _ => rfl))) (pss_one (ps_raise leaves_of rfl T.m_NoNumber T.q_NoNumber PySem.F.excBase_ValueError (by decide +kernel) PySem.F.excBase_ValueError (pa_cons pe_str pa_nil))) pss_nil) (pss_one (ps_ret (pe_op op_catS (pe_bm PySem.F.plainAttrs_str PySem.F.slot_str_join PySem.F.type_str_join mt_join pe_str (pa_cons (pe_comp (N' := ["shells"]) rfl (comp_plain rfl (by decide) (by decide) (by decide)) (pi_list (pv 1)) (fun _ _ _ _ => (pg_name (i := 0) (show List.Nodup (["shells"] : List Str) by decide +kernel) rfl (Or.inl rfl) (Or.inr rfl))) (fun _ _ _ _ => pifs_nil) (fun _ _ _ _ => (pe_ifExp (pt_cmpR op_eq (pv 0) pe_int (nomark _)) pe_str pe_str))) pa_nil)) pe_str))))), ?_⟩
  rcases h with ⟨n, rfl, h1, h2, q⟩ | ⟨hb, qe⟩
  · walk_at "S"
    refine ⟨_, rfl, .inl ⟨n, rfl, ⟨by omega, h2⟩, fun p H1 g1 n1 e1 => ?_⟩⟩
    have hz := zrow_01 (n := n) (by omega)
    have hl := zrow_len (n := n) (by omega) h2
    have hne : ((zrow n).map V.int).isEmpty = false := by
      cases e : zrow n with
      | nil => exact absurd e (zrow_ne h1)
      | cons a t => rfl
    have ht : txt n = enc (zrow n) ++ [111] := rfl
    generalize zrow n = zr at e1 hz hl hne ht
    walk_at "S"
    refine r_truL (SqL.of e1) ?_
    rw [hne]
    refine iteF ?_
    walk_at "S"
    refine ⟨rfl, ?_⟩
    walk_at "S"
    refine ⟨_, rfl, p, rfl, ⟨_, SqL.of e1⟩, fun D hD => comp_list (xs := zr.map V.int) (fun i σ ys H' => Same H1 H' ∧ (∃ o, σ = [o]) ∧ ys = (((enc zr).take i).map fun c => V.str (tx [c])) ∧ H' D = some (.lst ys))
      ⟨same_new hD _, ⟨none, rfl⟩, rfl, upd_same⟩ ?_ ?_ ?_⟩
    · rintro i σ ys H' hi ⟨g, _, rfl, e⟩
      refine ⟨⟨e, ?_⟩, SqL.of (g _ _ e1)⟩
      refine small2 ?_
      rw [List.length_map, List.length_take, enc_len]; omega
    · rintro i x σ ys H' hx ⟨g, ⟨o, rfl⟩, rfl, e⟩
      obtain ⟨v, rfl, _, hi, hgt⟩ := map_at hx
      have hv : zr[i]? = some v := by
        rw [List.getElem?_map] at hx
        cases e9 : zr[i]? with
        | none => rw [e9] at hx; cases hx
        | some w => rw [e9] at hx; cases hx; rfl
      have hvz := hz v (List.mem_of_getElem? hv)
      have hen : (enc zr)[i]? = some (code v) := by unfold enc; rw [List.getElem?_map, hv]; rfl
      have fin : ∀ u : Str, u = tx [code v] → H' D = some (.lst (((enc zr).take i).map fun c => V.str (tx [c]))) ∧ ∃ m', m' < (zr.map V.int).length - i ∧ m' = (zr.map V.int).length - (i + 1) ∧ i + 1 ≤ (zr.map V.int).length ∧ Same H1 (upd H' D (.lst ((((enc zr).take i).map fun c => V.str (tx [c])) ++ [.str u]))) ∧ (∃ o', [some (V.int v)] = [o']) ∧ (((enc zr).take i).map fun c => V.str (tx [c])) ++ [V.str u] = (((enc zr).take (i + 1)).map fun c => V.str (tx [c])) ∧ upd H' D (.lst ((((enc zr).take i).map fun c => V.str (tx [c])) ++ [.str u])) D = some (.lst ((((enc zr).take i).map fun c => V.str (tx [c])) ++ [.str u])) := fun u hu => by
        refine ⟨e, nxt (by rw [List.length_map]; exact hi) ⟨g.upd hD _, ⟨_, rfl⟩, ?_, upd_same⟩⟩
        rw [List.take_succ, hen, List.map_append, hu]; rfl
      refine r_one ?_
      walk_at "S"
      refine r_iteI (fun c => ?_) (fun c => ?_)
      · walk_at "S"
        exact fin _ (by rw [c]; exact tx_o)
      · walk_at "S"
        exact fin _ (by rw [hvz.resolve_right c]; exact tx_d)
    · rintro σ ys H2 ⟨g2, _, rfl, eD⟩
      rw [List.length_map, ← enc_len zr, List.take_length] at eD
      rw [tx_nil, tx_o]
      walk_at "S"
      refine r_join (ls := (enc zr).map fun c => [c]) (by rw [List.map_map]; exact SqL.of eD) (by rw [flat_one, enc_len]; exact Nat.le_of_lt (small2 (by omega))) ?_
      rw [flat_one]
      walk_at "S"
      refine r_catS (by rw [enc_len]; exact Nat.le_of_lt (small2 (by simp; omega))) ?_
      rw [← ht]
      exact q _ (g1.trans g2)
  · rcases hb with ⟨n, rfl, hn⟩ | ht
    · by_cases z : n = 0
      · subst z
        walk_at "S"
        refine ⟨_, rfl, .inl ⟨0, rfl, ⟨by decide, by decide⟩, fun p H1 g1 n1 e1 => ?_⟩⟩
        rw [zrow_zero] at e1
        walk_at "S"
        refine r_truL (SqL.of e1) ?_
        refine iteT ?_
        refine r_raise ?_
        walk_at "S"
        exact ⟨by show 1 ≤ sizeLine; decide, qe _ _ T.m_NoNumber g1⟩
      · walk_at "S"
        exact ⟨_, rfl, .inr ⟨.inl ⟨n, rfl, fun w => hn ⟨by have := w.1; omega, w.2⟩⟩, fun cls hc => qe cls _ hc (Same.refl _)⟩⟩
    · walk_at "S"
      exact ⟨_, rfl, .inr ⟨.inr ht, fun cls hc => qe cls _ hc (Same.refl _)⟩⟩
def sp_Reader_feed (K : PySem.W.Frag) (mg : Str → Option Value) (C : Addr) : Sp := fun vs H Q E => ∃ (p : Addr) (r l : List Nat), vs = [.ref p, .str (tx l)] ∧ Rdr C H p r ∧ (r ++ l).length ≤ 7900 ∧ (Odd l → ∀ cls, mg "NoSign" = some cls → E cls none H) ∧
  (¬ Odd l → ∀ (z : Addr) (H' : Hp), Kp p H H' → H z = none → H' z = some (.lst ((rdC ([], []) (r ++ l)).1.map V.int)) → Rdr C H' p (rdC ([], []) (r ++ l)).2 → Q (.ref z) H')
theorem ok_Reader_feed (T : Txt K mg f_worths f_has_row f_has_other_sign f_Reader_init f_Reader_left f_in_step f_law_cell f_law_whole f_law_ends f_law_pieces f_law_behind f_weight f_still_heap f_law_alike f_law_in_step f_row_of f_weight_of_signs f_law_held f_shown f_Reader_feed f_written f_read f_law_refused f_law_fed f_law_stepped f_law c_StairError c_NoNumber c_NoSign c_NoEnd c_Reader d_worths d_has_row d_has_other_sign d_Reader_init d_Reader_left d_in_step d_law_cell d_law_whole d_law_ends d_law_pieces d_law_behind d_weight d_still_heap d_law_alike d_law_in_step d_row_of d_weight_of_signs d_law_held d_shown d_Reader_feed d_written d_read d_law_refused d_law_fed d_law_stepped d_law) : FnOk P w K mg base (CXf P w) 4 f_Reader_feed d_Reader_feed ["self", "piece"] (sp_Reader_feed K mg c_Reader) := by
  refine T.F_Reader_feed.okx sc_Reader_feed (fun vs H Q E h => by revert h; unfold sp_Reader_feed; intro h; first | (obtain ⟨_, rfl, _⟩ := h; rfl) | (obtain ⟨_, _, rfl, _⟩ := h; rfl) | (obtain ⟨_, _, _, rfl, _⟩ := h; rfl) | (obtain ⟨_, _, _, _, rfl, _⟩ := h; rfl) | (obtain ⟨_, _, _, _, _, rfl, _⟩ := h; rfl) | (obtain ⟨_, _, _, _, _, _, rfl, _⟩ := h; rfl) | (obtain ⟨_, _, _, _, _, _, _, rfl, _⟩ := h; rfl) | (obtain ⟨_, _, _, _, _, _, _, _, rfl, _⟩ := h; rfl) | (obtain ⟨_, _, _, _, _, _, _, _, _, rfl, _⟩ := h; rfl) | (obtain ⟨_, _, _, _, _, _, _, _, _, _, rfl, _⟩ := h; rfl)) (fun cdv A outer s H vs Q E hr h => ?_)
  obtain ⟨p, r, l, rfl, ⟨dx, hp⟩, hl, qe, q⟩ := h
  rw [List.length_append] at hl
  refine ⟨_, (pss_cons (ps_if (pt_val (pe_call ((ok_has_other_sign (P := P) (w := w) (base := base) T).mono (by decide)) hr rfl T.m_has_other_sign T.F_has_other_sign.kp T.b_has_other_sign .nil pass0 (pa_cons (pv 1) pa_nil))) (pss_one (ps_raise leaves_of rfl T.m_NoSign T.q_NoSign PySem.F.excBase_ValueError (by decide +kernel) PySem.F.excBase_ValueError (pa_cons pe_str pa_nil))) pss_nil) (pss_cons (ps_set (i := 2) sc_Reader_feed.nd rfl (Or.inl rfl) (pe_op op_catS (pe_fld (pv 0) rfl) (pv 1))) (pss_cons (ps_set (i := 3) sc_Reader_feed.nd rfl (Or.inl rfl) (pe_lst pa_nil)) (pss_cons (ps_set (i := 4) sc_Reader_feed.nd rfl (Or.inl rfl) pe_int) (pss_cons (ps_set (i := 5) sc_Reader_feed.nd rfl (Or.inl rfl) (pe_bm PySem.F.plainAttrs_str PySem.F.slot_str_find PySem.F.type_str_find mt_find (pv 2) (pa_cons pe_str pa_nil))) (pss_cons (PS.nox (ps_while PassesOwn.never (pt_cmpR op_ge (pv 5) pe_int (nomark _)) (pss_cons (ps_expr (pe_bm PySem.F.plainAttrs_list PySem.F.slot_list_append PySem.F.type_list_append mt_append (pv 3) (pa_cons (pe_call ((ok_weight_of_signs (P := P) (w := w) (base := base) T).mono (by decide)) hr rfl T.m_weight_of_signs T.F_weight_of_signs.kp T.b_weight_of_signs .nil pass0 (pa_cons (pe_slice sl_str (pv 2) (po_some (pv 4)) (po_some (pe_op op_add (pv 5) pe_int))) pa_nil)) pa_nil))) (pss_cons (ps_set (i := 4) sc_Reader_feed.nd rfl (Or.inl rfl) (pe_op op_add (pv 5) pe_int)) (pss_one (ps_set (i := 5) sc_Reader_feed.nd rfl (Or.inl rfl) (pe_bm PySem.F.plainAttrs_str PySem.F.slot_str_find PySem.F.type_str_find mt_find (pv 2) (pa_cons pe_str (pa_cons (pv 4) pa_nil))))))))) (pss_cons (ps_fld (pv 0) (pe_slice sl_str (pv 2) (po_some (pv 4)) po_none) rfl) (pss_one (ps_ret (pv 3)))))))))), ?_⟩
  walk_at "S"
  refine ⟨l, rfl, by omega, fun ho => ?_, fun hn => ?_⟩
  · walk_at "S"
    refine iteT ?_
    refine r_raise ?_
    walk_at "S"
    exact ⟨by show 1 ≤ sizeLine; decide, qe ho _ T.m_NoSign⟩
  have q := q hn
  walk_at "S"
  refine iteF ?_
  walk_at "S"
  refine ⟨p, c_Reader, dx, _, _, rfl, hp, T.cl_Reader, T.n_Reader_kept, rfl, ?_⟩
  walk_at "S"
  refine r_catS (Nat.le_of_lt (small2 (by omega))) ?_
  have htl : (r ++ l).length ≤ 7900 := by rw [List.length_append]; exact hl
  generalize r ++ l = t at htl q
  walk_at "S"
  refine ⟨Nat.zero_le _, fun z hz => ?_⟩
  have s1 := same_new hz (.lst [])
  have ez : upd H z (.lst []) z = some (.lst (([] : List Int).map V.int)) := upd_same
  generalize upd H z (.lst []) = H1 at s1 ez
  have zp : z ≠ p := fun e => by rw [e, hp] at hz; cases hz
  replace hp := s1 _ _ hp
  walk_at "S"
  refine ⟨rfl, ?_⟩
  walk_at "S"
  refine ⟨t, [111, 111], rfl, .inl ⟨by rw [← tx_oo], ?_⟩⟩
  walk_at "S"
  refine r_while (fun m σ H' => ∃ (b : Nat) (ns : List Int), m = t.length + 2 - b ∧ σ = [some (.ref p), some (.str (tx l)), some (.str (tx t)), some (.ref z), some (.int (b : Int)), some (.int (findN t [111, 111] b))] ∧ Same H H' ∧ b ≤ t.length ∧ rdC ([], []) (t.take b) = (ns, []) ∧ ns.length ≤ b ∧ H' z = some (.lst (ns.map V.int)) ∧ H' p = some (.ins c_Reader dx [("kept", .str (tx r))]))
    (m0 := t.length + 2) ⟨0, [], rfl, rfl, s1, Nat.zero_le _, rfl, Nat.le_refl _, ez, hp⟩ ?_
  clear s1 ez hp
  rintro m σ H2 ⟨b, ns, rfl, rfl, g, hb, hrd, hnl, ez, hp⟩
  walk_at "S"
  rcases find_oo t b with ⟨hf, hno⟩ | ⟨k, hf, hbk, hoo, hfirst⟩
  · rw [hf]
    refine iteF ?_
    have hr := rdC_none hrd hno
    walk_at "S"
    refine r_slS (Nat.le_of_lt (small2 (by omega))) ?_
    rw [cutN_from]
    walk_at "S"
    refine ⟨p, c_Reader, dx, _, rfl, hp, T.cl_Reader, T.n_Reader_kept, by simp, ?_⟩
    walk_at "S"
    rw [hr] at q
    refine q z _ ((Kp.of g).trans Kp.upd) hz ?_ ⟨dx, by rw [upd_same, put_kept]⟩
    rw [upd_ne zp]; exact ez
  · rw [hf]
    have hk1 := (List.getElem?_eq_some_iff.mp hoo.2).1
    rw [decide_eq_true (show (0 : Int) ≤ (k : Int) by omega)]
    refine iteT ?_
    have hstep := rdC_found hrd hbk hoo hfirst
    refine ⟨fun σ' H' => σ' = [some (.ref p), some (.str (tx l)), some (.str (tx t)), some (.ref z), some (.int ((k + 2 : Nat) : Int)), some (.int (findN t [111, 111] (k + 2)))] ∧ Same H H' ∧ H' z = some (.lst ((ns ++ [wt (((t.take (k + 1)).drop b).map bit)]).map V.int)) ∧ H' p = some (.ins c_Reader dx [("kept", .str (tx r))]), ?_, ?_⟩
    · rintro σ' H' ⟨rfl, g', ez', hp'⟩
      exact ⟨_, by omega, k + 2, _, rfl, rfl, g', by omega, hstep, by simp; omega, ez', hp'⟩
    · walk_at "S"
      refine ⟨ty_lst ez, ?_⟩
      walk_at "S"
      refine r_slS (Nat.le_of_lt (small2 (by omega))) ?_
      rw [show (k : Int) + 1 = ((k + 1 : Nat) : Int) by omega, cutN_nat]
      walk_at "S"
      refine ⟨_, rfl, by rw [List.length_drop, List.length_take]; omega, fun H3 g3 => ?_⟩
      replace g := g.trans g3
      replace ez := g3 _ _ ez
      replace hp := g3 _ _ hp
      walk_at "S"
      refine r_append ez (small2 (by rw [List.length_map]; omega)) ?_
      have ez' : upd H3 z (.lst (ns.map V.int ++ [.int (wt (((t.take (k + 1)).drop b).map bit))])) z = some (.lst ((ns ++ [wt (((t.take (k + 1)).drop b).map bit)]).map V.int)) := by rw [upd_same, List.map_append]; rfl
      have hp' : upd H3 z (.lst (ns.map V.int ++ [.int (wt (((t.take (k + 1)).drop b).map bit))])) p = some (.ins c_Reader dx [("kept", .str (tx r))]) := by rw [upd_ne zp.symm]; exact hp
      have g' := g.upd hz (.lst (ns.map V.int ++ [.int (wt (((t.take (k + 1)).drop b).map bit))]))
      generalize upd H3 z (.lst (ns.map V.int ++ [.int (wt (((t.take (k + 1)).drop b).map bit))])) = H4 at ez' hp' g'
      walk_at "S"
      refine ⟨rfl, ?_⟩
      walk_at "S"
      rw [show (k : Int) + 2 = ((k + 2 : Nat) : Int) by omega]
      refine ⟨t, [111, 111], rfl, .inr ⟨k + 2, by omega, by rw [← tx_oo], ?_⟩⟩
      exact ⟨rfl, g', ez', hp'⟩
def sp_written (K : PySem.W.Frag) (mg : Str → Option Value) : Sp := fun vs H Q E => ∃ (a : Addr) (ns : List Int) (r : List V), vs = [.ref a] ∧ SqL K H a (ns.map V.int ++ r) ∧ ns.length ≤ 50 ∧ r.length ≤ 50 ∧ (∀ n ∈ ns, 1 ≤ n ∧ n < 10 ^ 60) ∧ ((r = [] ∧ ∀ H', Same H H' → Q (.str (tx (txts ns))) H') ∨ (∃ x t, r = x :: t ∧ Bad H x ∧ ∀ cls H', mg "NoNumber" = some cls → Same H H' → E cls none H'))
theorem ok_written (T : Txt K mg f_worths f_has_row f_has_other_sign f_Reader_init f_Reader_left f_in_step f_law_cell f_law_whole f_law_ends f_law_pieces f_law_behind f_weight f_still_heap f_law_alike f_law_in_step f_row_of f_weight_of_signs f_law_held f_shown f_Reader_feed f_written f_read f_law_refused f_law_fed f_law_stepped f_law c_StairError c_NoNumber c_NoSign c_NoEnd c_Reader d_worths d_has_row d_has_other_sign d_Reader_init d_Reader_left d_in_step d_law_cell d_law_whole d_law_ends d_law_pieces d_law_behind d_weight d_still_heap d_law_alike d_law_in_step d_row_of d_weight_of_signs d_law_held d_shown d_Reader_feed d_written d_read d_law_refused d_law_fed d_law_stepped d_law) : FnOk P w K mg base (CXf P w) 5 f_written d_written ["numbers"] (sp_written K mg) := by
  refine T.F_written.okx sc_written (fun vs H Q E h => by revert h; unfold sp_written; intro h; first | (obtain ⟨_, rfl, _⟩ := h; rfl) | (obtain ⟨_, _, rfl, _⟩ := h; rfl) | (obtain ⟨_, _, _, rfl, _⟩ := h; rfl) | (obtain ⟨_, _, _, _, rfl, _⟩ := h; rfl) | (obtain ⟨_, _, _, _, _, rfl, _⟩ := h; rfl) | (obtain ⟨_, _, _, _, _, _, rfl, _⟩ := h; rfl) | (obtain ⟨_, _, _, _, _, _, _, rfl, _⟩ := h; rfl) | (obtain ⟨_, _, _, _, _, _, _, _, rfl, _⟩ := h; rfl) | (obtain ⟨_, _, _, _, _, _, _, _, _, rfl, _⟩ := h; rfl) | (obtain ⟨_, _, _, _, _, _, _, _, _, _, rfl, _⟩ := h; rfl)) (fun cdv A outer s H vs Q E hr h => ?_)
  obtain ⟨a, ns, r, rfl, hS, hl, hlr, hb, h⟩ := h
  refine ⟨_, (pss_one (ps_ret (pe_bm PySem.F.plainAttrs_str PySem.F.slot_str_join PySem.F.type_str_join mt_join pe_str (pa_cons (pe_compX (N' := ["number"]) rfl (comp_plain rfl (by decide) (by decide) (by decide)) (pi_list (pv 0)) (fun _ _ _ _ hcx => (pg_name (i := 0) (show List.Nodup (["number"] : List Str) by decide +kernel) rfl (Or.inl rfl) (Or.inr rfl))) (fun _ _ _ _ hcx => pifs_nil) (fun _ _ _ _ hcx => (pe_call ((ok_shown (P := P) (w := w) (base := base) T).mono (by decide)) hr rfl T.m_shown T.F_shown.kp T.b_shown .nil (comp_pass leaves_of (fun _ _ _ z => z) hcx) (pa_cons (pv 0) pa_nil)))) pa_nil)))), ?_⟩
  walk_at "S"
  refine ⟨rfl, ?_⟩
  walk_at "S"
  refine ⟨_, rfl, a, rfl, ⟨_, hS⟩, fun D hD => comp_list (xs := ns.map V.int ++ r) (fun i σ ys H' => Same H H' ∧ (∃ o, σ = [o]) ∧ i ≤ ns.length ∧ ys = ((ns.take i).map fun n => V.str (tx (txt n))) ∧ H' D = some (.lst ys))
    ⟨same_new hD _, ⟨none, rfl⟩, Nat.zero_le _, rfl, upd_same⟩ ?_ ?_ ?_⟩
  · rintro i σ ys H' hi ⟨g, _, hil, rfl, e⟩
    refine ⟨⟨e, ?_⟩, g.seq hS⟩
    refine small2 ?_
    rw [List.length_map, List.length_take]; omega
  · rintro i x σ ys H' hx ⟨g, ⟨o, rfl⟩, hil, rfl, e⟩
    refine r_one ?_
    walk_at "S"
    by_cases c : i < ns.length
    · have hxi : x = .int ns[i] := by
        rw [List.getElem?_append_left (by simpa using c), List.getElem?_map, List.getElem?_eq_getElem c] at hx
        cases hx; rfl
      subst hxi
      have bb := hb ns[i] (List.getElem_mem c)
      refine ⟨_, rfl, .inl ⟨ns[i], rfl, bb.1, bb.2, fun H2 g2 => ?_⟩⟩
      refine ⟨g2 _ _ e, nxt (by simp; omega) ⟨(g.trans g2).upd hD _, ⟨_, rfl⟩, c, ?_, upd_same⟩⟩
      rw [List.take_succ, List.getElem?_eq_getElem c, List.map_append]; rfl
    · have hie : i = ns.length := by omega
      subst hie
      rcases h with ⟨rfl, q⟩ | ⟨y, t, rfl, hbad, qe⟩
      · rw [List.append_nil, List.getElem?_eq_none (by simp)] at hx
        cases hx
      · rw [List.getElem?_append_right (by simp)] at hx
        simp at hx
        subst hx
        exact ⟨_, rfl, .inr ⟨hbad.same g, fun cls H2 hc g2 => qe cls H2 hc (g.trans g2)⟩⟩
  · rintro σ ys H2 ⟨g2, _, hil, rfl, eD⟩
    rcases h with ⟨rfl, q⟩ | ⟨y, t, rfl, hbad, qe⟩
    · rw [List.append_nil, List.length_map, List.take_length] at eD
      rw [tx_nil]
      have hlen := txts_len hb
      walk_at "S"
      refine r_join (ls := ns.map txt) (by rw [List.map_map]; exact SqL.of eD) (by rw [txts_flat]; exact Nat.le_of_lt (small2 (by omega))) ?_
      rw [txts_flat]
      exact q _ g2
    · exfalso
      rw [List.length_append, List.length_map, List.length_cons] at hil
      omega
def sp_read (K : PySem.W.Frag) (mg : Str → Option Value) : Sp := fun vs H Q E => ∃ l : List Nat, vs = [.str (tx l)] ∧ l.length ≤ 7900 ∧ (Odd l → ∀ cls H', mg "NoSign" = some cls → Same H H' → E cls none H') ∧
  (¬ Odd l → (rdC ([], []) l).2 ≠ [] → ∀ cls H', mg "NoEnd" = some cls → Same H H' → E cls none H') ∧
  (¬ Odd l → (rdC ([], []) l).2 = [] → ∀ (z : Addr) (H' : Hp), Same H H' → H z = none → H' z = some (.lst ((rdC ([], []) l).1.map V.int)) → Q (.ref z) H')
theorem ok_read (T : Txt K mg f_worths f_has_row f_has_other_sign f_Reader_init f_Reader_left f_in_step f_law_cell f_law_whole f_law_ends f_law_pieces f_law_behind f_weight f_still_heap f_law_alike f_law_in_step f_row_of f_weight_of_signs f_law_held f_shown f_Reader_feed f_written f_read f_law_refused f_law_fed f_law_stepped f_law c_StairError c_NoNumber c_NoSign c_NoEnd c_Reader d_worths d_has_row d_has_other_sign d_Reader_init d_Reader_left d_in_step d_law_cell d_law_whole d_law_ends d_law_pieces d_law_behind d_weight d_still_heap d_law_alike d_law_in_step d_row_of d_weight_of_signs d_law_held d_shown d_Reader_feed d_written d_read d_law_refused d_law_fed d_law_stepped d_law) : FnOk P w K mg base (CXf P w) 5 f_read d_read ["text"] (sp_read K mg) := by
  refine T.F_read.okx sc_read (fun vs H Q E h => by revert h; unfold sp_read; intro h; first | (obtain ⟨_, rfl, _⟩ := h; rfl) | (obtain ⟨_, _, rfl, _⟩ := h; rfl) | (obtain ⟨_, _, _, rfl, _⟩ := h; rfl) | (obtain ⟨_, _, _, _, rfl, _⟩ := h; rfl) | (obtain ⟨_, _, _, _, _, rfl, _⟩ := h; rfl) | (obtain ⟨_, _, _, _, _, _, rfl, _⟩ := h; rfl) | (obtain ⟨_, _, _, _, _, _, _, rfl, _⟩ := h; rfl) | (obtain ⟨_, _, _, _, _, _, _, _, rfl, _⟩ := h; rfl) | (obtain ⟨_, _, _, _, _, _, _, _, _, rfl, _⟩ := h; rfl) | (obtain ⟨_, _, _, _, _, _, _, _, _, _, rfl, _⟩ := h; rfl)) (fun cdv A outer s H vs Q E hr h => ?_)
  obtain ⟨l, rfl, hl, q1, q2, q3⟩ := h
  refine ⟨_, (pss_cons (ps_set (i := 1) sc_read.nd rfl (Or.inl rfl) (pe_make0 T.m_Reader_init ((ok_Reader_init (P := P) (w := w) (base := base) T).mono (by decide)) hr rfl T.m_Reader T.b_Reader_init .nil pass0)) (pss_cons (ps_set (i := 2) sc_read.nd rfl (Or.inl rfl) (pe_meth (pv 1) T.cl_Reader T.m_Reader_feed ((ok_Reader_feed (P := P) (w := w) (base := base) T).mono (by decide)) hr T.b_Reader_feed .nil (leaves_of.pass fun _ _ _ z => z) (pa_cons (pv 0) pa_nil))) (pss_cons (ps_if (pt_cmpR op_ne (pe_meth0 (pv 1) T.cl_Reader T.m_Reader_left ((ok_Reader_left (P := P) (w := w) (base := base) T).mono (by decide)) hr T.b_Reader_left .nil pass0) pe_str (nomark _)) (pss_one (ps_raise leaves_of rfl T.m_NoEnd T.q_NoEnd PySem.F.excBase_ValueError (by decide +kernel) PySem.F.excBase_ValueError (pa_cons pe_str pa_nil))) pss_nil) (pss_one (ps_ret (pv 2)))))), ?_⟩
  walk_at "S"
  intro x dx hx hdx hne
  have s0 : Same H (upd (upd H dx (.own x)) x (.ins c_Reader dx [])) := fun b o e => by rw [upd_ne (ne_of_none e hx), upd_ne (ne_of_none e hdx)]; exact e
  have e0 : upd (upd H dx (.own x)) x (.ins c_Reader dx []) x = some (.ins c_Reader dx []) := upd_same
  generalize upd (upd H dx (.own x)) x (.ins c_Reader dx []) = H0 at s0 e0
  refine ⟨x, dx, rfl, e0, fun H1 k1 r1 => ⟨rfl, ?_⟩⟩
  have g1 : Same H H1 := fun b o e => k1 b o (s0 b o e) (ne_of_none e hx)
  obtain ⟨dy, ey⟩ := id r1
  walk_at "S"
  refine ⟨x, dy, _, rfl, ey, look_no _ (by decide +kernel), ?_⟩
  walk_at "S"
  refine ⟨x, [], l, rfl, r1, by simpa using hl, fun ho cls hc => q1 ho cls _ hc g1, fun hn z H2 k2 hz ez r2 => ?_⟩
  rw [List.nil_append] at ez r2
  have g2 : Same H H2 := fun b o e => k2 b o (g1 b o e) (ne_of_none e hx)
  obtain ⟨dz, ey2⟩ := id r2
  walk_at "S"
  refine ⟨x, dz, _, rfl, ey2, look_no _ (by decide +kernel), ?_⟩
  walk_at "S"
  refine ⟨x, _, rfl, r2, ?_⟩
  walk_at "S"
  by_cases c : (rdC ([], []) l).2 = []
  · rw [c, decide_eq_true (show V.str (tx []) = V.str "" by rw [tx_nil])]
    refine iteF ?_
    walk_at "S"
    exact q3 hn c z H2 g2 (g1.free hz) ez
  · rw [decide_eq_false (show ¬ V.str (tx (rdC ([], []) l).2) = V.str "" by rw [tx_nil]; intro w; exact c (tx_inj (V.str.inj w)))]
    refine iteT ?_
    refine r_raise ?_
    walk_at "S"
    exact ⟨by show 1 ≤ sizeLine; decide, q2 hn c _ _ T.m_NoEnd g2⟩
def sp_law_refused (K : PySem.W.Frag) (C : Addr) : Sp := fun vs H Q _ => ∃ (p a : Addr) (r l : List Nat) (ns : List Int), vs = [.ref p, .str (tx l), .ref a] ∧ Rdr C H p r ∧ SqL K H a (ns.map V.int) ∧ r.length ≤ 7700 ∧ l.length ≤ 7900 ∧ ∀ H', Same H H' → Q (.bl true) H'
theorem okq_Reader_left {k : Nat} (T : Txt K mg f_worths f_has_row f_has_other_sign f_Reader_init f_Reader_left f_in_step f_law_cell f_law_whole f_law_ends f_law_pieces f_law_behind f_weight f_still_heap f_law_alike f_law_in_step f_row_of f_weight_of_signs f_law_held f_shown f_Reader_feed f_written f_read f_law_refused f_law_fed f_law_stepped f_law c_StairError c_NoNumber c_NoSign c_NoEnd c_Reader d_worths d_has_row d_has_other_sign d_Reader_init d_Reader_left d_in_step d_law_cell d_law_whole d_law_ends d_law_pieces d_law_behind d_weight d_still_heap d_law_alike d_law_in_step d_row_of d_weight_of_signs d_law_held d_shown d_Reader_feed d_written d_read d_law_refused d_law_fed d_law_stepped d_law) : FnQ P w K mg base (k + 1) f_Reader_left d_Reader_left ["self"] (sp_Reader_left K c_Reader) :=
  T.F_Reader_left.okq sc_Reader_left (fun vs H Q E h => by obtain ⟨_, _, rfl, _⟩ := h; rfl) (fun cdv A ax outer s H vs Q h => by
    obtain ⟨p, r, rfl, ⟨dx, hp⟩, q⟩ := h
    refine ⟨_, (pss_one (ps_ret (pe_fld (pv 0) rfl))), ?_⟩
    walk_at "S"
    exact ⟨p, c_Reader, dx, _, _, rfl, hp, T.cl_Reader, T.n_Reader_kept, rfl, q⟩)
theorem ok_law_refused (T : Txt K mg f_worths f_has_row f_has_other_sign f_Reader_init f_Reader_left f_in_step f_law_cell f_law_whole f_law_ends f_law_pieces f_law_behind f_weight f_still_heap f_law_alike f_law_in_step f_row_of f_weight_of_signs f_law_held f_shown f_Reader_feed f_written f_read f_law_refused f_law_fed f_law_stepped f_law c_StairError c_NoNumber c_NoSign c_NoEnd c_Reader d_worths d_has_row d_has_other_sign d_Reader_init d_Reader_left d_in_step d_law_cell d_law_whole d_law_ends d_law_pieces d_law_behind d_weight d_still_heap d_law_alike d_law_in_step d_row_of d_weight_of_signs d_law_held d_shown d_Reader_feed d_written d_read d_law_refused d_law_fed d_law_stepped d_law) : FnOk P w K mg base CX0 5 f_law_refused d_law_refused ["_law_reader", "_law_piece", "_law_script"] (sp_law_refused K c_Reader) := by
  refine T.F_law_refused.ok sc_law_refused (fun vs H Q E h => by revert h; unfold sp_law_refused; intro h; first | (obtain ⟨_, rfl, _⟩ := h; rfl) | (obtain ⟨_, _, rfl, _⟩ := h; rfl) | (obtain ⟨_, _, _, rfl, _⟩ := h; rfl) | (obtain ⟨_, _, _, _, rfl, _⟩ := h; rfl) | (obtain ⟨_, _, _, _, _, rfl, _⟩ := h; rfl) | (obtain ⟨_, _, _, _, _, _, rfl, _⟩ := h; rfl) | (obtain ⟨_, _, _, _, _, _, _, rfl, _⟩ := h; rfl) | (obtain ⟨_, _, _, _, _, _, _, _, rfl, _⟩ := h; rfl) | (obtain ⟨_, _, _, _, _, _, _, _, _, rfl, _⟩ := h; rfl) | (obtain ⟨_, _, _, _, _, _, _, _, _, _, rfl, _⟩ := h; rfl)) (fun cdv A outer s H vs Q E hr h => ?_)
  obtain ⟨p, a, r, l, ns, rfl, hR, hS, hrl, hl, q⟩ := h
  refine ⟨_, (pss_cons (ps_set (i := 3) sc_law_refused.nd rfl (Or.inl rfl) (pe_op op_mod (pe_call ((ok_law_cell (P := P) (w := w) (base := base) T).mono (by decide)) hr rfl T.m_law_cell T.F_law_cell.kp T.b_law_cell .nil pass0 (pa_cons (pv 2) (pa_cons pe_int pa_nil))) (pe_op op_add (pe_callB (c_min rfl) rfl T.z_min bt_min (pa_cons (pe_callB c_lenS rfl T.z_len bt_len (pa_cons (pv 1) pa_nil)) (pa_cons pe_int pa_nil))) pe_int))) (pss_cons (ps_set (i := 4) sc_law_refused.nd rfl (Or.inl rfl) (pe_ix ix_list (pe_lst (pa_cons pe_str (pa_cons pe_str (pa_cons pe_str (pa_cons pe_str (pa_cons pe_str (pa_cons pe_str (pa_cons pe_str (pa_cons pe_str pa_nil))))))))) (pe_op op_mod (pe_call ((ok_law_cell (P := P) (w := w) (base := base) T).mono (by decide)) hr rfl T.m_law_cell T.F_law_cell.kp T.b_law_cell .nil pass0 (pa_cons (pv 2) (pa_cons pe_int pa_nil))) pe_int) (fun _ _ => rfl))) (pss_cons (ps_set (i := 5) sc_law_refused.nd rfl (Or.inl rfl) (pe_meth0 (pv 0) T.cl_Reader T.m_Reader_left ((ok_Reader_left (P := P) (w := w) (base := base) T).mono (by decide)) hr T.b_Reader_left .nil pass0)) (pss_cons (ps_try1 rfl rfl (pex_meth rfl (pv 0) T.cl_Reader T.m_Reader_feed ((ok_Reader_feed (P := P) (w := w) (base := base) T).mono (by decide)) hr T.b_Reader_feed (pa_cons (pe_op op_catS (pe_op op_catS (pe_slice sl_str (pv 1) po_none (po_some (pv 3))) (pv 4)) (pe_slice sl_str (pv 1) (po_some (pv 3)) (po_some (pe_op op_add (pv 3) pe_int)))) pa_nil)) (phs_cons0 (fun _ => hr.hd) (ht_tup2 rfl T.m_NoEnd rfl T.m_NoNumber) (fun _ => (pss_one (ps_ret pe_bl))) (phs_cons1 (i := 6) (fun _ => hr.hd) sc_law_refused.nd rfl rfl (ht_name rfl T.m_NoSign) (fun _ => (pss_one (ps_ret (pe_and (pe_callB (call_isiEK (K := K) rfl) rfl T.z_isinstance bt_isinstance (pa_cons (pv 6) (pa_cons (pe_glob (v := .ref c_StairError) rfl T.m_StairError rfl) pa_nil))) (pe_one (pe_cmpR op_eq (pe_meth0Q (pv 0) T.cl_Reader T.m_Reader_left (okq_Reader_left T) hr T.b_Reader_left) (pv 5) (nomark _))))))) phs_nil))) (pss_one (ps_ret pe_bl)))))), ?_⟩
  walk_at "S"
  refine do_law_cell hS (by decide) ?_
  generalize ns.getD (42 : Int).toNat 0 = c42
  walk_at "S"
  refine r_lenS (by rw [tx_len]; exact Nat.le_of_lt (small2 (by omega))) ?_
  rw [tx_len]
  walk_at "S"
  have hm : 0 ≤ (if (60 : Int) < (l.length : Int) then 60 else (l.length : Int)) ∧ (if (60 : Int) < (l.length : Int) then 60 else (l.length : Int)) ≤ 60 := by split <;> omega
  generalize (if (60 : Int) < (l.length : Int) then 60 else (l.length : Int)) = m at hm
  refine r_I (by omega) ?_
  have p0 : 0 ≤ c42 % (m + 1) := Int.emod_nonneg _ (by omega)
  have p1 : c42 % (m + 1) < m + 1 := Int.emod_lt_of_pos _ (by omega)
  obtain ⟨pl, hpl⟩ : ∃ pl : Nat, c42 % (m + 1) = pl := ⟨_, (Int.toNat_of_nonneg p0).symm⟩
  rw [hpl] at p0 p1
  rw [hpl]
  walk_at "S"
  refine ⟨(by show 8 ≤ sizeLine; decide), fun b hb => ?_⟩
  have s1 := same_new hb (.lst [.str "O", .str "0", .str " ", .str ",", .str "\n", .str "x", .str ":", .str "1"])
  have eb : upd H b (.lst [.str "O", .str "0", .str " ", .str ",", .str "\n", .str "x", .str ":", .str "1"]) b = some (.lst [.str "O", .str "0", .str " ", .str ",", .str "\n", .str "x", .str ":", .str "1"]) := upd_same
  generalize upd H b (.lst [.str "O", .str "0", .str " ", .str ",", .str "\n", .str "x", .str ":", .str "1"]) = H1 at s1 eb
  replace hR := hR.same s1
  obtain ⟨dx, ey⟩ := id hR
  walk_at "S"
  refine do_law_cell (s1.seq hS) (by decide) ?_
  generalize ns.getD (43 : Int).toNat 0 = c43
  walk_at "S"
  refine r_I (by decide) ?_
  have k0 : 0 ≤ c43 % 8 := Int.emod_nonneg _ (by decide)
  have k1 : c43 % 8 < 8 := Int.emod_lt_of_pos _ (by decide)
  obtain ⟨x, hx, hmx⟩ := at_ok (l := [V.str "O", .str "0", .str " ", .str ",", .str "\n", .str "x", .str ":", .str "1"]) k0 (by simpa using k1)
  obtain ⟨c, rfl, c1, c2⟩ := eight_sign hmx
  walk_at "S"
  refine r_ixL (SqL.of eb) hx ?_
  walk_at "S"
  refine ⟨p, dx, _, rfl, ey, look_no _ (by decide +kernel), ?_⟩
  walk_at "S"
  refine ⟨p, r, rfl, hR, ?_⟩
  walk_at "S"
  have l1 : (l.take pl).length ≤ pl := by rw [List.length_take]; omega
  have l2 : ((l.take (pl + 30)).drop pl).length ≤ 30 := by rw [List.length_drop, List.length_take]; omega
  refine r_try1 (fun cls _ H' => cls = .ref c_NoSign ∧ H1 = H') ?_ ?_
  · walk_at "S"
    refine ⟨p, dx, _, rfl, ey, look_no _ (by decide +kernel), ?_⟩
    walk_at "S"
    refine r_slS (Nat.le_of_lt (small2 (by omega))) ?_
    rw [cutN_to]
    walk_at "S"
    refine r_catS (Nat.le_of_lt (small2 (by simp only [List.length_cons, List.length_nil]; omega))) ?_
    walk_at "S"
    refine r_slS (Nat.le_of_lt (small2 (by omega))) ?_
    rw [show (pl : Int) + 30 = ((pl + 30 : Nat) : Int) by omega, cutN_nat]
    refine r_catS (Nat.le_of_lt (small2 (by rw [List.length_append]; simp only [List.length_cons, List.length_nil]; omega))) ?_
    walk_at "S"
    have ho : Odd (l.take pl ++ [c] ++ (l.take (pl + 30)).drop pl) := ⟨c, by simp, c1, c2⟩
    refine ⟨p, r, _, rfl, hR, by rw [List.length_append, List.length_append, List.length_append]; simp only [List.length_cons, List.length_nil]; omega, fun _ cls hc => ⟨Option.some.inj (hc.symm.trans T.m_NoSign), rfl⟩, fun hn => absurd ho hn⟩
  · rintro cls d H' ⟨rfl, rfl⟩ y hy
    refine ⟨false, T.x_S2, ?_⟩
    refine iteF ?_
    refine ⟨true, T.x_SS, ?_⟩
    refine iteT ?_
    have ek : ExcK K c_NoSign := ⟨T.e1_NoSign, T.e2_NoSign, T.e3_NoSign, T.e4_NoSign, T.e5_NoSign, T.e6_NoSign⟩
    have hu := upd_same (H := H1) (a := y) (o := xo y (.ref c_NoSign))
    have s2 := same_new hy (xo y (.ref c_NoSign))
    walk_at "S"
    refine r_isiE ek hu (fun z => nomatch z) T.k_SE ?_
    walk_at "S"
    refine iteT ?_
    walk_at "S"
    refine ⟨p, dx, _, rfl, s2 _ _ ey, look_no _ (by decide +kernel), ?_⟩
    walk_at "S"
    refine ⟨p, r, rfl, hR.same s2, ?_⟩
    walk_at "S"
    rw [decide_eq_true rfl]
    exact q _ (s1.trans s2)
def sp_law_fed (K : PySem.W.Frag) (C : Addr) : Sp := fun vs H Q _ => ∃ (a b : Addr) (ns ms : List Int) (l : List Nat), vs = [.ref a, .str (tx l), .ref b] ∧ SqL K H a (ns.map V.int) ∧ SqL K H b (ms.map V.int) ∧ ns.length ≤ 63 ∧ l.length ≤ 7700 ∧ ¬ Odd l ∧ rdC ([], []) l = (ms, []) ∧
  ∀ (z : Addr) (as : List (Addr × List Int)) (H' : Hp), Same H H' → H' z = some (.lst (as.map fun y => V.ref y.1)) → Hd H' as → (as.map Prod.snd).flatten = ms → as.length ≤ 64 → Q (.ref z) H'
theorem ok_law_fed (T : Txt K mg f_worths f_has_row f_has_other_sign f_Reader_init f_Reader_left f_in_step f_law_cell f_law_whole f_law_ends f_law_pieces f_law_behind f_weight f_still_heap f_law_alike f_law_in_step f_row_of f_weight_of_signs f_law_held f_shown f_Reader_feed f_written f_read f_law_refused f_law_fed f_law_stepped f_law c_StairError c_NoNumber c_NoSign c_NoEnd c_Reader d_worths d_has_row d_has_other_sign d_Reader_init d_Reader_left d_in_step d_law_cell d_law_whole d_law_ends d_law_pieces d_law_behind d_weight d_still_heap d_law_alike d_law_in_step d_row_of d_weight_of_signs d_law_held d_shown d_Reader_feed d_written d_read d_law_refused d_law_fed d_law_stepped d_law) : FnOk P w K mg base CX0 6 f_law_fed d_law_fed ["_law_script", "_law_text", "_law_numbers"] (sp_law_fed K c_Reader) := by
  refine T.F_law_fed.ok sc_law_fed (fun vs H Q E h => by revert h; unfold sp_law_fed; intro h; first | (obtain ⟨_, rfl, _⟩ := h; rfl) | (obtain ⟨_, _, rfl, _⟩ := h; rfl) | (obtain ⟨_, _, _, rfl, _⟩ := h; rfl) | (obtain ⟨_, _, _, _, rfl, _⟩ := h; rfl) | (obtain ⟨_, _, _, _, _, rfl, _⟩ := h; rfl) | (obtain ⟨_, _, _, _, _, _, rfl, _⟩ := h; rfl) | (obtain ⟨_, _, _, _, _, _, _, rfl, _⟩ := h; rfl) | (obtain ⟨_, _, _, _, _, _, _, _, rfl, _⟩ := h; rfl) | (obtain ⟨_, _, _, _, _, _, _, _, _, rfl, _⟩ := h; rfl) | (obtain ⟨_, _, _, _, _, _, _, _, _, _, rfl, _⟩ := h; rfl)) (fun cdv A outer s H vs Q E hr h => ?_)
  obtain ⟨a, b, ns, ms, l, rfl, hS, hB, hnl, hl, hno, hrd, q⟩ := h
  refine ⟨_, (pss_cons (ps_set (i := 3) sc_law_fed.nd rfl (Or.inl rfl) (pe_make0 T.m_Reader_init ((ok_Reader_init (P := P) (w := w) (base := base) T).mono (by decide)) hr rfl T.m_Reader T.b_Reader_init .nil pass0)) (pss_cons (ps_if (pt_cmpR op_ne (pe_meth0 (pv 3) T.cl_Reader T.m_Reader_left ((ok_Reader_left (P := P) (w := w) (base := base) T).mono (by decide)) hr T.b_Reader_left .nil pass0) pe_str (nomark _)) (pss_one (ps_ret pe_non)) pss_nil) (pss_cons (ps_set (i := 4) sc_law_fed.nd rfl (Or.inl rfl) (pe_call ((ok_law_ends (P := P) (w := w) (base := base) T).mono (by decide)) hr rfl T.m_law_ends T.F_law_ends.kp T.b_law_ends .nil pass0 (pa_cons (pv 1) pa_nil))) (pss_cons (ps_set (i := 5) sc_law_fed.nd rfl (Or.inl rfl) (pe_call ((ok_law_pieces (P := P) (w := w) (base := base) T).mono (by decide)) hr rfl T.m_law_pieces T.F_law_pieces.kp T.b_law_pieces .nil pass0 (pa_cons (pv 0) (pa_cons (pv 1) pa_nil)))) (pss_cons (ps_set (i := 6) sc_law_fed.nd rfl (Or.inl rfl) (pe_op op_mod (pe_call ((ok_law_cell (P := P) (w := w) (base := base) T).mono (by decide)) hr rfl T.m_law_cell T.F_law_cell.kp T.b_law_cell .nil pass0 (pa_cons (pv 0) (pa_cons pe_int pa_nil))) (pe_callB c_len rfl T.z_len bt_len (pa_cons (pv 5) pa_nil)))) (pss_cons (ps_set (i := 7) sc_law_fed.nd rfl (Or.inl rfl) (pe_lst pa_nil)) (pss_cons (ps_set (i := 8) sc_law_fed.nd rfl (Or.inl rfl) pe_int) (pss_cons (ps_set (i := 9) sc_law_fed.nd rfl (Or.inl rfl) pe_int) (pss_cons (ps_for PassesOwn.never rfl (pi_range1 rfl T.z_range (pa_cons (pe_callB c_len rfl T.z_len bt_len (pa_cons (pv 5) pa_nil)) pa_nil)) (pg_name (i := 10) sc_law_fed.nd rfl (Or.inl rfl)) (pss_cons (ps_cut (ps_if (PW.pt (pw_and (pt_cmpR op_eq (pv 10) (pv 6) (nomark _)) (pw_and1 (pt_not (pt_val (pe_call ((ok_law_refused (P := P) (w := w) (base := base) T).mono (by decide)) hr rfl T.m_law_refused T.F_law_refused.kp T.b_law_refused .nil pass0 (pa_cons (pv 3) (pa_cons (pe_ix ix_list (pv 5) (pv 10) (fun _ _ => rfl)) (pa_cons (pv 0) pa_nil))))))))) (pss_one (ps_ret pe_non)) pss_nil)) (pss_cons (ps_set (i := 8) sc_law_fed.nd rfl (Or.inl rfl) (pe_op op_add (pv 8) (pe_callB c_lenS rfl T.z_len bt_len (pa_cons (pe_ix ix_list (pv 5) (pv 10) (fun _ _ => rfl)) pa_nil)))) (pss_cons (ps_set (i := 11) sc_law_fed.nd rfl (Or.inl rfl) (pv 9)) (pss_cons (ps_cut (ps_while PassesOwn.never (PW.pt (pw_and (pt_cmpR op_lt (pv 9) (pe_callB c_len rfl T.z_len bt_len (pa_cons (pv 4) pa_nil)) (nomark _)) (pw_and1 (pt_cmpR op_le (pe_ix ix_list (pv 4) (pv 9) (fun _ _ => rfl)) (pv 8) (nomark _))))) (pss_one (ps_set (i := 9) sc_law_fed.nd rfl (Or.inl rfl) (pe_op op_add (pv 9) pe_int))))) (pss_cons (ps_set (i := 12) sc_law_fed.nd rfl (Or.inl rfl) (pe_meth (pv 3) T.cl_Reader T.m_Reader_feed ((ok_Reader_feed (P := P) (w := w) (base := base) T).mono (by decide)) hr T.b_Reader_feed .nil passF (pa_cons (pe_ix ix_list (pv 5) (pv 10) (fun _ _ => rfl)) pa_nil))) (pss_cons (ps_if (pt_not (pt_val (pe_call ((ok_law_alike (P := P) (w := w) (base := base) T).mono (by decide)) hr rfl T.m_law_alike T.F_law_alike.kp T.b_law_alike .nil pass0 (pa_cons (pv 12) (pa_cons (pe_slice sl_list (pv 2) (po_some (pv 11)) (po_some (pv 9))) pa_nil))))) (pss_one (ps_ret pe_non)) pss_nil) (pss_cons (ps_expr (pe_bm PySem.F.plainAttrs_list PySem.F.slot_list_append PySem.F.type_list_append mt_append (pv 7) (pa_cons (pv 12) pa_nil))) (pss_cons (ps_cut (ps_if (pt_cmpR op_eq (pe_op op_mod (pv 10) pe_int) pe_int (nomark _)) (pss_one (ps_expr (pe_bm PySem.F.plainAttrs_list PySem.F.slot_list_append PySem.F.type_list_append mt_append (pv 12) (pa_cons pe_int pa_nil)))) pss_nil)) (pss_cons (ps_set (i := 13) sc_law_fed.nd rfl (Or.inl rfl) (pe_slice sl_str (pv 1) (po_some (pe_ix ix_list (pe_op op_cat (pe_lst (pa_cons pe_int pa_nil)) (pv 4)) (pv 9) (fun _ _ => rfl))) (po_some (pv 8)))) (pss_one (ps_for PassesOwn.never rfl (pi_range1 rfl T.z_range (pa_cons (pe_op op_add pe_int (pe_op op_mod (pv 10) pe_int)) pa_nil)) (pg_name (i := 14) sc_law_fed.nd rfl (Or.inl rfl)) (pss_one (ps_if (PW.pt (pw_or (pt_not (pt_val (pe_callB call_isi rfl T.z_isinstance bt_isinstance (pa_cons (pe_meth0 (pv 3) T.cl_Reader T.m_Reader_left ((ok_Reader_left (P := P) (w := w) (base := base) T).mono (by decide)) hr T.b_Reader_left .nil pass0) (pa_cons (pe_bltn (v := .ty "str") rfl T.z_str bt_str rfl) pa_nil))))) (pw_or1 (pt_cmpR op_ne (pe_meth0 (pv 3) T.cl_Reader T.m_Reader_left ((ok_Reader_left (P := P) (w := w) (base := base) T).mono (by decide)) hr T.b_Reader_left .nil pass0) (pv 13) (nomark _))))) (pss_one (ps_ret pe_non)) pss_nil)))))))))))))) (pss_one (ps_ret (pv 7)))))))))))), ?_⟩
  walk_at "S"
  intro x dx hx hdx hne
  have s0 : Same H (upd (upd H dx (.own x)) x (.ins c_Reader dx [])) := fun b o e => by rw [upd_ne (ne_of_none e hx), upd_ne (ne_of_none e hdx)]; exact e
  have e0 : upd (upd H dx (.own x)) x (.ins c_Reader dx []) x = some (.ins c_Reader dx []) := upd_same
  generalize upd (upd H dx (.own x)) x (.ins c_Reader dx []) = H0 at s0 e0
  refine ⟨x, dx, rfl, e0, fun H1 k1 rd => ⟨rfl, ?_⟩⟩
  have g : Same H H1 := fun b o e => k1 b o (s0 b o e) (ne_of_none e hx)
  clear k1 s0 e0
  obtain ⟨dy, ey⟩ := id rd
  walk_at "S"
  refine ⟨x, dy, _, rfl, ey, look_no _ (by decide +kernel), ?_⟩
  walk_at "S"
  refine ⟨x, _, rfl, rd, ?_⟩
  clear ey
  walk_at "S"
  rw [decide_eq_true (show V.str (tx []) = V.str "" by rw [tx_nil])]
  refine iteF ?_
  walk_at "S"
  refine ⟨l, rfl, by omega, fun E H2 g2 nE eE => ?_⟩
  replace rd := rd.same g2
  replace g := g.trans g2
  walk_at "S"
  refine ⟨a, ns, l, rfl, g.seq hS, hnl, hl, fun Z ps H3 g3 nZ eZ hps hp1 hp64 => ?_⟩
  replace rd := rd.same g3
  replace g := g.trans g3
  replace eE := g3 _ _ eE
  walk_at "S"
  refine do_law_cell (g.seq hS) (by decide) ?_
  generalize ns.getD (44 : Int).toNat 0 = c44
  walk_at "S"
  rw [List.length_map]
  refine r_I (by omega) ?_
  generalize c44 % (ps.length : Int) = od
  walk_at "S"
  refine ⟨Nat.zero_le _, fun hd hhd => ?_⟩
  have s4 := same_new hhd (.lst [])
  have eh : upd H3 hd (.lst []) hd = some (.lst (([] : List (Addr × List Int)).map fun y => V.ref y.1)) := upd_same
  have nEh : E ≠ hd := ne_of_none eE hhd
  have nZh : Z ≠ hd := ne_of_none eZ hhd
  have nxh : x ≠ hd := by obtain ⟨dz, e⟩ := id rd; exact ne_of_none e hhd
  have hdH : H hd = none := g.free hhd
  generalize upd H3 hd (.lst []) = H4 at s4 eh
  replace rd := rd.same s4
  replace g := g.trans s4
  replace eE := s4 _ _ eE
  replace eZ := s4 _ _ eZ
  walk_at "S"
  refine r_for (r_rng1 ?_)
  walk_at "S"
  rw [List.length_map]
  refine ⟨_, rfl, by omega, by omega, for_range (fun i σ H' => ∃ (as : List (Addr × List Int)) (o1 o2 o3 o4 o5 : Option V), σ = [some (.ref a), some (.str (tx l)), some (.ref b), some (.ref x), some (.ref E), some (.ref Z), some (.int od), some (.ref hd), some (.int ((ps.take i).flatten.length : Int)), some (.int ((rdC ([], []) (ps.take i).flatten).1.length : Int)), o1, o2, o3, o4, o5] ∧ Same H H' ∧ Rdr c_Reader H' x (rdC ([], []) (ps.take i).flatten).2 ∧
      H' E = some (.lst (((endsTo l l.length).map fun e : Nat => (e : Int)).map V.int)) ∧ H' Z = some (.lst (ps.map fun u => V.str (tx u))) ∧ H' hd = some (.lst (as.map fun y => V.ref y.1)) ∧ Hd H' as ∧ (∀ y ∈ as, y.1 ≠ hd) ∧ as.length = i ∧ (as.map Prod.snd).flatten = (rdC ([], []) (ps.take i).flatten).1)
      ⟨[], none, none, none, none, none, rfl, g, rd, eE, eZ, eh, Hd.nil, by simp, rfl, rfl⟩ ?_ ?_⟩
  · clear g rd eE eZ eh s4
    rintro i σ H5 hi ⟨as, o1, o2, o3, o4, o5, rfl, g, rd, eE, eZ, eh, hH, hN, hal, hfl⟩
    have hi' : i < ps.length := by omega
    have hv : ps[i]? = some ps[i] := List.getElem?_eq_getElem hi'
    have hvm : ps[i] ∈ ps := List.getElem_mem hi'
    generalize ps[i] = v at hv hvm
    have hnext := flat_next hv
    obtain ⟨w, hw⟩ := flat_split hps (i + 1)
    obtain ⟨ft1, ft2⟩ := flat_take hps (i + 1)
    rw [hnext] at hw ft1 ft2
    generalize (ps.take i).flatten = u at hnext hw ft1 ft2 rd hfl ⊢
    have hat : atI (ps.map fun u => V.str (tx u)) (i : Int) = some (.str (tx v)) := atI_nat (by rw [List.getElem?_map, hv]; rfl)
    have huv : (u ++ v).length = u.length + v.length := List.length_append
    have hkl := kept_len u
    have rdp := rdC_piece (u := u) (v := v) (ns := (rdC ([], []) u).1) (r := (rdC ([], []) u).2) rfl
    have htp := told_part (l := l) (u := u) (v := v) (ms := ms) (by rw [hrd]) hw
    have hN1 : (endsTo l (u ++ v).length).length = (rdC ([], []) (u ++ v)).1.length := by rw [ends_len l _ ft2, ← ft1]
    have hN2 : (rdC ([], []) (u ++ v)).1.length ≤ ms.length := by
      have := ends_below ft2
      rw [hN1, ends_all, hrd] at this; exact this
    have hN3 : ms.length ≤ l.length := by have := rdC_cnt l ([], []); rw [hrd] at this; simpa using this
    have hN4 : (rdC ([], []) u).1.length ≤ (rdC ([], []) (u ++ v)).1.length := by rw [rdp, List.length_append]; omega
    have hkp := (kept_at l (u ++ v).length ft2).1
    rw [← ft1] at hkp
    have hle := ends_last ft2
    rw [hN1] at hle
    rw [show (0 + (i : Int)) = (i : Int) by omega]
    walk_at "S"
    refine r_cut (fun σ' H' => σ' = [some (.ref a), some (.str (tx l)), some (.ref b), some (.ref x), some (.ref E), some (.ref Z), some (.int od), some (.ref hd), some (.int (u.length : Int)), some (.int ((rdC ([], []) u).1.length : Int)), some (.int (i : Int)), o2, o3, o4, o5] ∧ Same H5 H') ?_ ?_
    · walk_at "S"
      refine r_iteI (fun c => ?_) (fun c => ?_)
      · walk_at "S"
        refine r_ixL (SqL.of eZ) hat ?_
        walk_at "S"
        refine ⟨x, a, _, v, ns, rfl, rd, g.seq hS, by omega, by omega, fun H6 g6 => ?_⟩
        walk_at "S"
        refine iteF ?_
        walk_at "S"
        exact ⟨rfl, g6⟩
      · refine iteF ?_
        walk_at "S"
        exact ⟨rfl, Same.refl _⟩
    rintro σ' H6 ⟨rfl, g6⟩
    replace rd := rd.same g6
    replace hH := hH.same g6
    replace g := g.trans g6
    replace eE := g6 _ _ eE
    replace eZ := g6 _ _ eZ
    replace eh := g6 _ _ eh
    walk_at "S"
    refine r_ixL (SqL.of eZ) hat ?_
    walk_at "S"
    refine r_lenS (by rw [tx_len]; exact Nat.le_of_lt (small2 (by omega))) ?_
    rw [tx_len]
    walk_at "S"
    rw [show (u.length : Int) + (v.length : Int) = ((u ++ v).length : Int) by omega]
    refine r_cut (fun σ' H' => σ' = [some (.ref a), some (.str (tx l)), some (.ref b), some (.ref x), some (.ref E), some (.ref Z), some (.int od), some (.ref hd), some (.int ((u ++ v).length : Int)), some (.int ((rdC ([], []) (u ++ v)).1.length : Int)), some (.int (i : Int)), some (.int ((rdC ([], []) u).1.length : Int)), o3, o4, o5] ∧ H6 = H') ?_ ?_
    · refine r_while (fun m σ H' => ∃ j : Nat, m = (endsTo l l.length).length - j ∧ σ = [some (.ref a), some (.str (tx l)), some (.ref b), some (.ref x), some (.ref E), some (.ref Z), some (.int od), some (.ref hd), some (.int ((u ++ v).length : Int)), some (.int (j : Int)), some (.int (i : Int)), some (.int ((rdC ([], []) u).1.length : Int)), o3, o4, o5] ∧ H6 = H' ∧ j ≤ (rdC ([], []) (u ++ v)).1.length)
        (m0 := (endsTo l l.length).length - (rdC ([], []) u).1.length) ⟨_, rfl, rfl, rfl, hN4⟩ ?_
      rintro m σ H7 ⟨j, rfl, rfl, rfl, hj⟩
      walk_at "S"
      rw [List.length_map, List.length_map]
      have hbl := ends_below ft2
      by_cases c : j < (rdC ([], []) (u ++ v)).1.length
      · obtain ⟨e, he, hle1⟩ := ends_in ft2 (j := j) (by rw [hN1]; exact c)
        rw [decide_eq_true (show (j : Int) < ((endsTo l l.length).length : Int) by omega)]
        refine iteT ?_
        walk_at "S"
        refine r_ixL (SqL.of eE) (v := .int (e : Int)) (atI_nat (by rw [List.getElem?_map, List.getElem?_map, he]; rfl)) ?_
        walk_at "S"
        rw [decide_eq_true (show (e : Int) ≤ ((u ++ v).length : Int) by omega)]
        refine iteT ?_
        refine ⟨fun σ' H' => σ' = [some (.ref a), some (.str (tx l)), some (.ref b), some (.ref x), some (.ref E), some (.ref Z), some (.int od), some (.ref hd), some (.int ((u ++ v).length : Int)), some (.int ((j + 1 : Nat) : Int)), some (.int (i : Int)), some (.int ((rdC ([], []) u).1.length : Int)), o3, o4, o5] ∧ H6 = H', ?_, ?_⟩
        · rintro σ' H' ⟨rfl, rfl⟩
          exact ⟨_, by omega, j + 1, rfl, rfl, rfl, by omega⟩
        · walk_at "S"
          exact ⟨rfl, rfl⟩
      · have hj' : j = (rdC ([], []) (u ++ v)).1.length := by omega
        subst hj'
        refine r_ite (fun c1 => ?_) (fun c1 => ?_)
        · obtain ⟨e, he⟩ : ∃ e, (endsTo l l.length)[(rdC ([], []) (u ++ v)).1.length]? = some e := ⟨_, List.getElem?_eq_getElem (by omega)⟩
          have hout := ends_out ft2 (e := e) (by rw [hN1]; exact he)
          walk_at "S"
          refine r_ixL (SqL.of eE) (v := .int (e : Int)) (atI_nat (by rw [List.getElem?_map, List.getElem?_map, he]; rfl)) ?_
          walk_at "S"
          rw [decide_eq_false (show ¬ (e : Int) ≤ ((u ++ v).length : Int) by omega)]
          refine iteF ?_
          exact ⟨rfl, rfl⟩
        · refine iteF ?_
          exact ⟨rfl, rfl⟩
    rintro σ' H7 ⟨rfl, rfl⟩
    obtain ⟨dy, ey⟩ := id rd
    walk_at "S"
    refine ⟨x, dy, _, rfl, ey, look_no _ (by decide +kernel), ?_⟩
    walk_at "S"
    refine r_ixL (SqL.of eZ) hat ?_
    walk_at "S"
    refine ⟨x, _, v, rfl, rd, by rw [List.length_append]; omega, fun z => absurd z (not_odd_piece hps hno hvm), fun _ tl H8 k8 ntl etl rd8 => ?_⟩
    have rdp1 : (rdC ([], []) (u ++ v)).1 = (rdC ([], []) u).1 ++ (rdC ([], []) ((rdC ([], []) u).2 ++ v)).1 := by rw [rdp]
    have rdp2 : (rdC ([], []) (u ++ v)).2 = (rdC ([], []) ((rdC ([], []) u).2 ++ v)).2 := by rw [rdp]
    rw [← rdp2] at rd8
    have htl : (rdC ([], []) ((rdC ([], []) u).2 ++ v)).1.length ≤ 7900 := by rw [rdp1, List.length_append] at hN2; omega
    have g8 : Same H H8 := fun b o e => k8 b o (g b o e) (ne_of_none e hx)
    have eE8 := k8 _ _ eE (rd.ne eE)
    have eZ8 := k8 _ _ eZ (rd.ne eZ)
    have eh8 := k8 _ _ eh (rd.ne eh)
    have hH8 : Hd H8 as := fun k y e => k8 _ _ (hH k y e) (rd.ne (hH k y e))
    have nEt : E ≠ tl := ne_of_none eE ntl
    have nZt : Z ≠ tl := ne_of_none eZ ntl
    have nht : hd ≠ tl := ne_of_none eh ntl
    have nxt' : x ≠ tl := ne_of_none ey ntl
    have nAt : ∀ y ∈ as, y.1 ≠ tl := fun y hy => by obtain ⟨xs, e⟩ := hH.ex hy; exact ne_of_none e ntl
    have tlH : H tl = none := g.free ntl
    clear hH eE eZ eh ey rd k8 g
    generalize (rdC ([], []) ((rdC ([], []) u).2 ++ v)).1 = tn at htp rdp1 htl etl
    walk_at "S"
    refine r_slL (g8.seq hB) (fun sl hsl => ?_)
    rw [cut_mid ms _ _ hN4 hN2, htp]
    have s9 := same_new hsl (.lst (tn.map V.int))
    have esl : upd H8 sl (.lst (tn.map V.int)) sl = some (.lst (tn.map V.int)) := upd_same
    generalize upd H8 sl (.lst (tn.map V.int)) = H9 at s9 esl
    replace rd8 := rd8.same s9
    replace hH8 := hH8.same s9
    replace g8 := g8.trans s9
    replace eE8 := s9 _ _ eE8
    replace eZ8 := s9 _ _ eZ8
    replace eh8 := s9 _ _ eh8
    replace etl := s9 _ _ etl
    walk_at "S"
    refine do_law_alike (fs := tn) (ds := tn) etl (SqL.of esl) rfl (by omega) ?_
    walk_at "S"
    refine iteF ?_
    walk_at "S"
    refine ⟨ty_lst eh8, ?_⟩
    walk_at "S"
    refine r_append eh8 (small2 (by rw [List.length_map]; omega)) ?_
    have eh9 : upd H9 hd (.lst (as.map (fun y => V.ref y.1) ++ [.ref tl])) hd = some (.lst ((as ++ [(tl, tn)]).map fun y => V.ref y.1)) := by rw [upd_same, List.map_append]; rfl
    have rd9 := rd8.upd (o := .lst (as.map (fun y => V.ref y.1) ++ [.ref tl])) nxh
    have hH9 : Hd (upd H9 hd (.lst (as.map (fun y => V.ref y.1) ++ [.ref tl]))) as := hH8.keep fun y hy => upd_ne (hN y hy)
    have eE9 : upd H9 hd (.lst (as.map (fun y => V.ref y.1) ++ [.ref tl])) E = _ := (upd_ne nEh).trans eE8
    have eZ9 : upd H9 hd (.lst (as.map (fun y => V.ref y.1) ++ [.ref tl])) Z = _ := (upd_ne nZh).trans eZ8
    have et9 : upd H9 hd (.lst (as.map (fun y => V.ref y.1) ++ [.ref tl])) tl = _ := (upd_ne nht.symm).trans etl
    have g9 := g8.upd hdH (.lst (as.map (fun y => V.ref y.1) ++ [.ref tl]))
    generalize upd H9 hd (.lst (as.map (fun y => V.ref y.1) ++ [.ref tl])) = H10 at eh9 rd9 hH9 eE9 eZ9 et9 g9
    clear esl s9 hH8 rd8 eE8 eZ8 eh8 etl g8
    walk_at "S"
    refine r_cut (fun σ' H' => σ' = [some (.ref a), some (.str (tx l)), some (.ref b), some (.ref x), some (.ref E), some (.ref Z), some (.int od), some (.ref hd), some (.int ((u ++ v).length : Int)), some (.int ((rdC ([], []) (u ++ v)).1.length : Int)), some (.int (i : Int)), some (.int ((rdC ([], []) u).1.length : Int)), some (.ref tl), o4, o5] ∧ Same H H' ∧ Rdr c_Reader H' x (rdC ([], []) (u ++ v)).2 ∧
      H' E = some (.lst (((endsTo l l.length).map fun e : Nat => (e : Int)).map V.int)) ∧ H' Z = some (.lst (ps.map fun u => V.str (tx u))) ∧ H' hd = some (.lst ((as ++ [(tl, tn)]).map fun y => V.ref y.1)) ∧ Hd H' (as ++ [(tl, tn)])) ?_ ?_
    · walk_at "S"
      refine r_I (by decide) ?_
      walk_at "S"
      refine r_iteI (fun c => ?_) (fun c => ?_)
      · have ci : as.length % 3 = 1 := by omega
        walk_at "S"
        refine ⟨ty_lst et9, ?_⟩
        walk_at "S"
        refine r_append et9 (small2 (by rw [List.length_map]; omega)) ?_
        refine ⟨rfl, g9.upd tlH _, rd9.upd nxt', (upd_ne nEt).trans eE9, (upd_ne nZt).trans eZ9, (upd_ne nht).trans eh9, (hH9.keep fun y hy => upd_ne (nAt y hy)).snoc ?_⟩
        rw [upd_same, if_pos ci, List.map_append]; rfl
      · have ci : ¬ as.length % 3 = 1 := by omega
        refine ⟨rfl, g9, rd9, eE9, eZ9, eh9, hH9.snoc ?_⟩
        rw [if_neg ci]; exact et9
    clear hH9 rd9 eE9 eZ9 et9 eh9 g9
    rintro σ' H11 ⟨rfl, g, rd, eE, eZ, eh, hH⟩
    walk_at "S"
    refine ⟨(by show 1 ≤ sizeLine; decide), fun z0 hz0 => ?_⟩
    have s12 := same_new hz0 (.lst [.int 0])
    have ez0 : upd H11 z0 (.lst [.int 0]) z0 = some (.lst [.int 0]) := upd_same
    generalize upd H11 z0 (.lst [.int 0]) = H12 at s12 ez0
    replace rd := rd.same s12
    replace hH := hH.same s12
    replace g := g.trans s12
    replace eE := s12 _ _ eE
    replace eZ := s12 _ _ eZ
    replace eh := s12 _ _ eh
    walk_at "S"
    refine r_cat ez0 eE (Nat.le_of_lt (small2 (by rw [List.length_map, List.length_map, ends_all, hrd]; simp only [List.length_cons, List.length_nil]; omega))) (fun z1 hz1 => ?_)
    have s13 := same_new hz1 (.lst ([.int 0] ++ ((endsTo l l.length).map fun e : Nat => (e : Int)).map V.int))
    have ez1 : upd H12 z1 (.lst ([.int 0] ++ ((endsTo l l.length).map fun e : Nat => (e : Int)).map V.int)) z1 = some (.lst (((0 :: endsTo l l.length).map fun e : Nat => (e : Int)).map V.int)) := upd_same
    generalize upd H12 z1 (.lst ([.int 0] ++ ((endsTo l l.length).map fun e : Nat => (e : Int)).map V.int)) = H13 at s13 ez1
    replace rd := rd.same s13
    replace hH := hH.same s13
    replace g := g.trans s13
    replace eE := s13 _ _ eE
    replace eZ := s13 _ _ eZ
    replace eh := s13 _ _ eh
    walk_at "S"
    refine r_ixL (SqL.of ez1) (v := .int (lastEnd l (u ++ v).length : Int)) (atI_nat (by rw [List.getElem?_map, List.getElem?_map, hle]; rfl)) ?_
    walk_at "S"
    refine r_slS (Nat.le_of_lt (small2 (by omega))) ?_
    rw [cutN_nat, ← ft1, ← hkp]
    walk_at "S"
    dsimp only
    refine r_for (r_rng1 ?_)
    walk_at "S"
    refine r_I (by decide) ?_
    walk_at "S"
    obtain ⟨dy, ey⟩ := id rd
    refine ⟨_, rfl, by omega, by omega, for_range (fun _ σ H' => H13 = H' ∧ ∃ o : Option V, σ = [some (.ref a), some (.str (tx l)), some (.ref b), some (.ref x), some (.ref E), some (.ref Z), some (.int od), some (.ref hd), some (.int ((u ++ v).length : Int)), some (.int ((rdC ([], []) (u ++ v)).1.length : Int)), some (.int (i : Int)), some (.int ((rdC ([], []) u).1.length : Int)), some (.ref tl), some (.str (tx (rdC ([], []) (u ++ v)).2)), o]) ⟨rfl, _, rfl⟩ ?_ ?_⟩
    · rintro _ σ H' _ ⟨rfl, o, rfl⟩
      walk_at "S"
      refine ⟨x, dy, _, rfl, ey, look_no _ (by decide +kernel), ?_⟩
      walk_at "S"
      refine ⟨x, _, rfl, rd, ?_⟩
      walk_at "S"
      refine r_isi (.str _) T.i_ss ?_
      walk_at "S"
      refine iteF ?_
      walk_at "S"
      refine ⟨x, dy, _, rfl, ey, look_no _ (by decide +kernel), ?_⟩
      walk_at "S"
      refine ⟨x, _, rfl, rd, ?_⟩
      walk_at "S"
      rw [decide_eq_true (rfl : V.str (tx (rdC ([], []) (u ++ v)).2) = V.str (tx (rdC ([], []) (u ++ v)).2))]
      refine iteF ?_
      walk_at "S"
      exact ⟨rfl, _, rfl⟩
    · rintro σ H' ⟨rfl, o, rfl⟩
      refine ⟨as ++ [(tl, tn)], _, _, _, _, _, by rw [hnext], g, by rw [hnext]; exact rd, eE, eZ, eh, hH, fun y hy => ?_, by simp [hal], by rw [hnext, rdp1, List.map_append, List.flatten_append, hfl]; simp⟩
      rcases List.mem_append.mp hy with z | z
      · exact hN y z
      · rw [List.mem_singleton.mp z]; exact nht.symm
  · clear g rd eE eZ eh s4
    rintro σ H5 ⟨as, o1, o2, o3, o4, o5, rfl, g, rd, eE, eZ, eh, hH, hN, hal, hfl⟩
    rw [Int.toNat_natCast] at hal hfl
    rw [flat_all hps (Nat.le_refl _), hrd] at hfl
    walk_at "S"
    exact q hd as H5 g eh hH hfl (by omega)
def sp_law_stepped (K : PySem.W.Frag) : Sp := fun vs H Q _ => ∃ (l : List Nat) (b : Addr) (ms : List Int) (pl : Nat), vs = [.str (tx l), .ref b, .int (pl : Int)] ∧ SqL K H b (ms.map V.int) ∧ pl ≤ l.length ∧ l.length ≤ 7900 ∧ ¬ Odd l ∧ rdC ([], []) l = (ms, []) ∧ ∀ H', Same H H' → Q (.bl true) H'
theorem ok_law_stepped (T : Txt K mg f_worths f_has_row f_has_other_sign f_Reader_init f_Reader_left f_in_step f_law_cell f_law_whole f_law_ends f_law_pieces f_law_behind f_weight f_still_heap f_law_alike f_law_in_step f_row_of f_weight_of_signs f_law_held f_shown f_Reader_feed f_written f_read f_law_refused f_law_fed f_law_stepped f_law c_StairError c_NoNumber c_NoSign c_NoEnd c_Reader d_worths d_has_row d_has_other_sign d_Reader_init d_Reader_left d_in_step d_law_cell d_law_whole d_law_ends d_law_pieces d_law_behind d_weight d_still_heap d_law_alike d_law_in_step d_row_of d_weight_of_signs d_law_held d_shown d_Reader_feed d_written d_read d_law_refused d_law_fed d_law_stepped d_law) : FnOk P w K mg base CX0 6 f_law_stepped d_law_stepped ["_law_text", "_law_numbers", "_law_place"] (sp_law_stepped K) := by
  refine T.F_law_stepped.ok sc_law_stepped (fun vs H Q E h => by revert h; unfold sp_law_stepped; intro h; first | (obtain ⟨_, rfl, _⟩ := h; rfl) | (obtain ⟨_, _, rfl, _⟩ := h; rfl) | (obtain ⟨_, _, _, rfl, _⟩ := h; rfl) | (obtain ⟨_, _, _, _, rfl, _⟩ := h; rfl) | (obtain ⟨_, _, _, _, _, rfl, _⟩ := h; rfl) | (obtain ⟨_, _, _, _, _, _, rfl, _⟩ := h; rfl) | (obtain ⟨_, _, _, _, _, _, _, rfl, _⟩ := h; rfl) | (obtain ⟨_, _, _, _, _, _, _, _, rfl, _⟩ := h; rfl) | (obtain ⟨_, _, _, _, _, _, _, _, _, rfl, _⟩ := h; rfl) | (obtain ⟨_, _, _, _, _, _, _, _, _, _, rfl, _⟩ := h; rfl)) (fun cdv A outer s H vs Q E hr h => ?_)
  obtain ⟨l, b, ms, pl, rfl, hB, hpl, hl, hno, hrd, q⟩ := h
  refine ⟨_, (pss_cons (ps_if (pt_not (pt_val (pe_call ((ok_law_in_step (P := P) (w := w) (base := base) T).mono (by decide)) hr rfl T.m_law_in_step T.F_law_in_step.kp T.b_law_in_step .nil pass0 (pa_cons (pv 0) (pa_cons (pv 2) pa_nil))))) (pss_one (ps_ret pe_bl)) pss_nil) (pss_cons (ps_set (i := 3) sc_law_stepped.nd rfl (Or.inr rfl) (pe_call ((ok_law_behind (P := P) (w := w) (base := base) T).mono (by decide)) hr rfl T.m_law_behind T.F_law_behind.kp T.b_law_behind .nil pass0 (pa_cons (pv 0) (pa_cons (pv 2) pa_nil)))) (pss_cons (ps_if (pt_cmpR op_isN (pv 3) pe_non (nomark _)) (pss_one (ps_ret pe_bl)) pss_nil) (pss_cons (ps_set (i := 4) sc_law_stepped.nd rfl (Or.inl rfl) (pe_callB c_len rfl T.z_len bt_len (pa_cons (pe_comp (N' := ["_law_end", "_law_due"]) (js := [none, some 3]) rfl (comp_cap ["_law_due"] rfl (by decide) (by decide) (by decide) (by decide) (by intro p hp; simp only [List.mem_cons, List.not_mem_nil, or_false] at hp; rcases hp with rfl; rfl) rfl rfl (by intro p hp; simp only [List.mem_cons, List.not_mem_nil, or_false] at hp; rcases hp with rfl; rfl) (by show jck ["_law_text", "_law_numbers", "_law_place", "_law_due", "_law_many"] ["_law_due"] ["_law_end", "_law_due"] [none, some 3] = true; decide +kernel)) (pi_list (pe_call ((ok_law_ends (P := P) (w := w) (base := base) T).mono (by decide)) hr rfl T.m_law_ends T.F_law_ends.kp T.b_law_ends .nil pass0 (pa_cons (pv 0) pa_nil))) (fun _ _ _ _ => (pg_name (i := 0) (show List.Nodup (["_law_end", "_law_due"] : List Str) by decide +kernel) rfl (Or.inl rfl) (Or.inr rfl))) (fun _ _ _ _ => (pifs_one (pt_cmpR op_gt (pv 0) (pv 1) (nomark _)))) (fun _ _ _ _ => (pv 0))) pa_nil))) (pss_one (ps_ret (pe_call ((ok_law_alike (P := P) (w := w) (base := base) T).mono (by decide)) hr rfl T.m_law_alike T.F_law_alike.kp T.b_law_alike .nil pass0 (pa_cons (pe_call ((ok_read (P := P) (w := w) (base := base) T).mono (by decide)) hr rfl T.m_read T.F_read.kp T.b_read .nil passF (pa_cons (pe_slice sl_str (pv 0) (po_some (pv 3)) po_none) pa_nil)) (pa_cons (pe_slice sl_list (pv 1) (po_some (pe_op op_sub (pe_callB c_len rfl T.z_len bt_len (pa_cons (pv 1) pa_nil)) (pv 4))) po_none) pa_nil))))))))), ?_⟩
  walk_at "S"
  refine ⟨l, pl, rfl, hpl, hl, ?_⟩
  walk_at "S"
  refine iteF ?_
  walk_at "S"
  refine ⟨l, pl, rfl, hpl, hl, ?_⟩
  rcases findN_cases l [46, 111, 111] pl with hf | ⟨k, hf, hk, hat⟩
  · have hst : stepV l pl = .non := by unfold stepV; rw [hf, if_pos (by decide)]
    rw [hst]
    walk_at "S"
    refine ⟨rfl, ?_⟩
    walk_at "S"
    refine iteT ?_
    walk_at "S"
    exact q _ (Same.refl _)
  · have hst : stepV l pl = .int ((k + 3 : Nat) : Int) := by unfold stepV; rw [hf, if_neg (by omega)]; rfl
    rw [hst]
    obtain ⟨h0, h1, h2, h3⟩ := doo_at hat
    have hsy := sync_at h0 h1 h2
    clear hst hat hf hk h0 h1 h2
    generalize k + 3 = d at h3 hsy ⊢
    have hend := ends_filter h3
    rw [ends_len l d h3, ends_all, hrd] at hend
    have hms : ms.length ≤ l.length := by have := rdC_cnt l ([], []); rw [hrd] at this; simpa using this
    have hbeh : rdC ([], []) (l.drop d) = (ms.drop (rdC ([], []) (l.take d)).1.length, []) := rdC_behind (u := l.take d) (by rw [List.take_append_drop]; exact hrd) (Prod.ext rfl hsy)
    generalize (rdC ([], []) (l.take d)).1.length = kn at hend hbeh
    walk_at "S"
    refine ⟨rfl, ?_⟩
    walk_at "S"
    refine iteF ?_
    walk_at "S"
    refine r_ilist ?_
    walk_at "S"
    refine ⟨l, rfl, hl, fun E H1 g1 nE eE => ?_⟩
    have hel : (endsTo l l.length).length ≤ 7900 := by rw [ends_all, hrd]; show ms.length ≤ 7900; omega
    generalize endsTo l l.length = es at hend eE hel
    refine ⟨E, rfl, ⟨_, SqL.of eE⟩, fun D hD => comp_listT (xs := (es.map fun e : Nat => (e : Int)).map V.int) (fun i σ ys H' => Same H1 H' ∧ (∃ o, σ = [o, some (.int (d : Int))]) ∧ ys.length = ((es.take i).filter fun e => decide (d < e)).length ∧ H' D = some (.lst ys))
      ⟨same_new hD _, ⟨none, rfl⟩, rfl, upd_same⟩ ?_ ?_ ?_⟩
    · rintro i σ ys H' hi ⟨g, _, hyl, e⟩
      refine ⟨⟨e, small2 ?_⟩, SqL.of (g _ _ eE)⟩
      have := List.length_filter_le (fun e => decide (d < e)) (es.take i)
      rw [List.length_take] at this; omega
    · rintro i x σ ys H' hx ⟨g, ⟨o, rfl⟩, hyl, e⟩
      obtain ⟨e0, he0, rfl⟩ : ∃ e0 : Nat, es[i]? = some e0 ∧ x = .int (e0 : Int) := by
        rw [List.getElem?_map, List.getElem?_map] at hx
        cases e9 : es[i]? with
        | none => rw [e9] at hx; cases hx
        | some w => rw [e9] at hx; cases hx; exact ⟨w, rfl, rfl⟩
      have hi := (List.getElem?_eq_some_iff.mp hx).1
      have hflt : (es.take (i + 1)).filter (fun e => decide (d < e)) = (es.take i).filter (fun e => decide (d < e)) ++ (if d < e0 then [e0] else []) := by
        rw [List.take_succ, he0, List.filter_append]
        by_cases z : d < e0
        · simp [z]
        · simp [z]
      refine r_oneT ?_
      walk_at "S"
      refine r_ite (fun c => ?_) (fun c => ?_)
      · walk_at "S"
        exact ⟨e, nxt hi ⟨g.upd hD _, ⟨_, rfl⟩, by rw [hflt, if_pos (by omega), List.length_append, List.length_append, hyl]; rfl, upd_same⟩⟩
      · exact nxt hi ⟨g, ⟨_, rfl⟩, by rw [hflt, if_neg (by omega), List.append_nil]; exact hyl, e⟩
    · rintro σ ys H2 ⟨g2, _, hyl, eD⟩
      rw [List.length_map, List.length_map, List.take_length] at hyl
      have g := g1.trans g2
      walk_at "S"
      refine r_slS (Nat.le_of_lt (small2 (by omega))) ?_
      rw [cutN_from]
      walk_at "S"
      refine ⟨_, rfl, by rw [List.length_drop]; omega, fun z => absurd z (not_odd_drop d hno), fun _ z => absurd (by rw [hbeh]) z, fun _ _ f H3 g3 hf ef => ?_⟩
      rw [hbeh] at ef
      replace g := g.trans g3
      have hB3 := g.seq hB
      walk_at "S"
      rw [List.length_map, show (ms.length : Int) - (ys.length : Int) = (kn : Int) by rw [hyl]; have : ms.length = _ := hend.symm; omega]
      refine r_slL hB3 (fun p hp => ?_)
      have hkn : kn ≤ ms.length := by have : ms.length = _ := hend.symm; omega
      rw [cut_fromI _ _ hkn]
      have s4 := same_new hp (.lst ((ms.drop kn).map V.int))
      have ep : upd H3 p (.lst ((ms.drop kn).map V.int)) p = some (.lst ((ms.drop kn).map V.int)) := upd_same
      generalize upd H3 p (.lst ((ms.drop kn).map V.int)) = H4 at s4 ep
      walk_at "S"
      exact do_law_alike (fs := ms.drop kn) (ds := ms.drop kn) (s4 _ _ ef) (SqL.of ep) rfl (by rw [List.length_drop]; omega) (q _ (g.trans s4))
def sp_law (K : PySem.W.Frag) : Sp := fun vs H Q _ => ∃ (a : Addr) (ns : List Int), vs = [.ref a] ∧ SqL K H a (ns.map V.int) ∧ ns.length ≤ 63 ∧ ∀ H', Q (.bl true) H'
theorem size_ok {x : V} (hm : x ∈ [V.int 12, .int 1000, .int (10 ^ (9 : Int).toNat), .int (10 ^ (20 : Int).toNat)]) : ∃ m : Int, x = .int m ∧ 1 ≤ m ∧ m ≤ 10 ^ 20 := by
  simp only [List.mem_cons, List.not_mem_nil, or_false] at hm
  rcases hm with rfl | rfl | rfl | rfl
  · exact ⟨12, rfl, by decide, by decide⟩
  · exact ⟨1000, rfl, by decide, by decide⟩
  · exact ⟨_, rfl, by decide, by decide⟩
  · exact ⟨_, rfl, by decide, by decide⟩
theorem p2060 : (10 : Int) ^ 20 < 10 ^ 60 := by decide
theorem zrow_len70 {n : Int} (h0 : 0 ≤ n) (h : n < 2 ^ 70) : (zrow n).length ≤ 141 := by
  by_cases c : zrow n = []
  · rw [c]; decide
  · have h3 := still_low (zrow_ok h0).1 c
    rw [(zrow_ok h0).2] at h3
    by_cases d : (zrow n).length ≤ 141
    · exact d
    · have h1 := pow_Fb 70
      have h2 := Fb_mono (m := 2 * 70) (n := (zrow n).length - 1) (by omega)
      exact absurd (Int.lt_of_le_of_lt (Int.le_trans (Int.le_trans h1 h2) h3) h) (Int.lt_irrefl _)
theorem txts_len70 : ∀ {ns : List Int}, (∀ n ∈ ns, 1 ≤ n ∧ n ≤ 10 ^ 20) → (txts ns).length ≤ 142 * ns.length
  | [], _ => by simp [txts]
  | n :: t, h => by
    have h0 := h n (.head _)
    have h1 := zrow_len70 (n := n) (by omega) (Int.lt_of_le_of_lt h0.2 (by decide))
    have h2 := txts_len70 (ns := t) fun m hm => h m (List.mem_cons_of_mem _ hm)
    show (enc (zrow n) ++ [111] ++ txts t).length ≤ _
    rw [List.length_append, List.length_append, List.length_cons, enc_len]
    simp only [List.length_cons, List.length_nil]
    omega
theorem not_odd_txts : ∀ ms : List Int, ¬ Odd (txts ms)
  | [], ⟨c, hc, _⟩ => by simp [txts] at hc
  | n :: t, ⟨c, hc, h1, h2⟩ => by
    have hc' : c ∈ enc (zrow n) ++ [111] ++ txts t := hc
    rcases List.mem_append.mp hc' with z | z
    · rcases List.mem_append.mp z with y | y
      · unfold enc at y
        obtain ⟨v, _, rfl⟩ := List.mem_map.mp y
        unfold Sh.code at h1 h2
        by_cases e : v = 1
        · rw [if_pos e] at h1; exact h1 rfl
        · rw [if_neg e] at h2; exact h2 rfl
      · exact h1 (List.mem_singleton.mp y)
    · exact not_odd_txts t ⟨c, z, h1, h2⟩
theorem ok_law (T : Txt K mg f_worths f_has_row f_has_other_sign f_Reader_init f_Reader_left f_in_step f_law_cell f_law_whole f_law_ends f_law_pieces f_law_behind f_weight f_still_heap f_law_alike f_law_in_step f_row_of f_weight_of_signs f_law_held f_shown f_Reader_feed f_written f_read f_law_refused f_law_fed f_law_stepped f_law c_StairError c_NoNumber c_NoSign c_NoEnd c_Reader d_worths d_has_row d_has_other_sign d_Reader_init d_Reader_left d_in_step d_law_cell d_law_whole d_law_ends d_law_pieces d_law_behind d_weight d_still_heap d_law_alike d_law_in_step d_row_of d_weight_of_signs d_law_held d_shown d_Reader_feed d_written d_read d_law_refused d_law_fed d_law_stepped d_law) : FnOk P w K mg base CX0 7 f_law d_law ["_law_script"] (sp_law K) := by
  refine T.F_law.ok sc_law (fun vs H Q E h => by revert h; unfold sp_law; intro h; first | (obtain ⟨_, rfl, _⟩ := h; rfl) | (obtain ⟨_, _, rfl, _⟩ := h; rfl) | (obtain ⟨_, _, _, rfl, _⟩ := h; rfl) | (obtain ⟨_, _, _, _, rfl, _⟩ := h; rfl) | (obtain ⟨_, _, _, _, _, rfl, _⟩ := h; rfl) | (obtain ⟨_, _, _, _, _, _, rfl, _⟩ := h; rfl) | (obtain ⟨_, _, _, _, _, _, _, rfl, _⟩ := h; rfl) | (obtain ⟨_, _, _, _, _, _, _, _, rfl, _⟩ := h; rfl) | (obtain ⟨_, _, _, _, _, _, _, _, _, rfl, _⟩ := h; rfl) | (obtain ⟨_, _, _, _, _, _, _, _, _, _, rfl, _⟩ := h; rfl)) (fun cdv A outer s H vs Q E hr h => ?_)
  obtain ⟨a, ns, rfl, hS, hl, q⟩ := h
  refine ⟨_, (pss_cons (ps_set (i := 1) sc_law.nd rfl (Or.inr rfl) (pe_ix ix_list (pe_lst (pa_cons pe_int (pa_cons pe_int (pa_cons (pe_op op_pow pe_int pe_int) (pa_cons (pe_op op_pow pe_int pe_int) pa_nil))))) (pe_op op_mod (pe_call ((ok_law_cell (P := P) (w := w) (base := base) T).mono (by decide)) hr rfl T.m_law_cell T.F_law_cell.kp T.b_law_cell .nil pass0 (pa_cons (pv 0) (pa_cons pe_int pa_nil))) pe_int) (fun _ _ => rfl))) (pss_cons (ps_setComp (i := 2) sc_law.nd rfl rfl (N' := ["_law_cell_here", "_law_size"]) (js := [none, some 1]) rfl (comp_cap ["_law_size"] rfl (by decide) (by decide) (by decide) (by decide) (by intro p hp; simp only [List.mem_cons, List.not_mem_nil, or_false] at hp; rcases hp with rfl; rfl) rfl rfl (by intro p hp; simp only [List.mem_cons, List.not_mem_nil, or_false] at hp; rcases hp with rfl; rfl) (by show jck ["_law_script", "_law_size", "_law_numbers", "_law_turned", "_law_text", "_law_held_here", "_law_other", "_law_place", "_law_loose"] ["_law_size"] ["_law_cell_here", "_law_size"] [none, some 1] = true; decide +kernel)) (pi_list (pe_slice sl_list (pv 0) (po_some pe_int) (po_some pe_int))) (fun _ _ _ _ => (pg_name (i := 0) (show List.Nodup (["_law_cell_here", "_law_size"] : List Str) by decide +kernel) rfl (Or.inl rfl) (Or.inr rfl))) (fun _ _ _ _ => pifs_nil) (fun _ _ _ _ => (pe_op op_add pe_int (pe_op op_mod (pe_op op_fdiv (pv 0) pe_int) (pv 1))))) (pss_cons (ps_set (i := 3) sc_law.nd rfl (Or.inl rfl) (pe_lrev rfl rfl T.z_list rfl T.z_reversed (pa_cons (pv 2) pa_nil))) (pss_cons (ps_set (i := 4) sc_law.nd rfl (Or.inl rfl) (pe_call ((ok_written (P := P) (w := w) (base := base) T).mono (by decide)) hr rfl T.m_written T.F_written.kp T.b_written .nil passF (pa_cons (pv 2) pa_nil))) (pss_cons (ps_if (PW.pt (pw_or (pt_not (pt_val (pe_callB call_isi rfl T.z_isinstance bt_isinstance (pa_cons (pv 4) (pa_cons (pe_bltn (v := .ty "str") rfl T.z_str bt_str rfl) pa_nil))))) (pw_or1 (pt_cmpR op_ne (pe_callB c_len rfl T.z_len bt_len (pa_cons (pe_call ((ok_law_ends (P := P) (w := w) (base := base) T).mono (by decide)) hr rfl T.m_law_ends T.F_law_ends.kp T.b_law_ends .nil pass0 (pa_cons (pv 4) pa_nil)) pa_nil)) (pe_callB c_len rfl T.z_len bt_len (pa_cons (pv 2) pa_nil)) (nomark _))))) (pss_one (ps_ret pe_bl)) pss_nil) (pss_cons (ps_set (i := 5) sc_law.nd rfl (Or.inl rfl) (pe_call ((ok_law_fed (P := P) (w := w) (base := base) T).mono (by decide)) hr rfl T.m_law_fed T.F_law_fed.kp T.b_law_fed .nil pass0 (pa_cons (pv 0) (pa_cons (pv 4) (pa_cons (pv 2) pa_nil))))) (pss_cons (ps_set (i := 6) sc_law.nd rfl (Or.inl rfl) (pe_call ((ok_law_fed (P := P) (w := w) (base := base) T).mono (by decide)) hr rfl T.m_law_fed T.F_law_fed.kp T.b_law_fed .nil pass0 (pa_cons (pv 0) (pa_cons (pe_call ((ok_written (P := P) (w := w) (base := base) T).mono (by decide)) hr rfl T.m_written T.F_written.kp T.b_written .nil passF (pa_cons (pv 3) pa_nil)) (pa_cons (pv 3) pa_nil))))) (pss_cons (ps_if (PW.pt (pw_or (pt_cmpR op_isN (pv 5) pe_non (nomark _)) (pw_or (pt_cmpR op_isN (pv 6) pe_non (nomark _)) (pw_or (pt_not (pt_val (pe_call ((ok_law_held (P := P) (w := w) (base := base) T).mono (by decide)) hr rfl T.m_law_held T.F_law_held.kp T.b_law_held .nil pass0 (pa_cons (pv 5) (pa_cons (pv 2) pa_nil))))) (pw_or1 (pt_not (pt_val (pe_call ((ok_law_held (P := P) (w := w) (base := base) T).mono (by decide)) hr rfl T.m_law_held T.F_law_held.kp T.b_law_held .nil pass0 (pa_cons (pv 6) (pa_cons (pv 3) pa_nil)))))))))) (pss_one (ps_ret pe_bl)) pss_nil) (pss_cons (ps_set (i := 7) sc_law.nd rfl (Or.inl rfl) (pe_op op_mod (pe_op op_fdiv (pe_call ((ok_law_cell (P := P) (w := w) (base := base) T).mono (by decide)) hr rfl T.m_law_cell T.F_law_cell.kp T.b_law_cell .nil pass0 (pa_cons (pv 0) (pa_cons pe_int pa_nil))) pe_int) (pe_op op_add (pe_callB c_lenS rfl T.z_len bt_len (pa_cons (pv 4) pa_nil)) pe_int))) (pss_cons (ps_set (i := 8) sc_law.nd rfl (Or.inl rfl) (pe_bm PySem.F.plainAttrs_str PySem.F.slot_str_join PySem.F.type_str_join mt_join pe_str (pa_cons (pe_comp (N' := ["_law_cell_here"]) rfl (comp_plain rfl (by decide) (by decide) (by decide)) (pi_list (pe_slice sl_list (pv 0) (po_some pe_int) (po_some pe_int))) (fun _ _ _ _ => (pg_name (i := 0) (show List.Nodup (["_law_cell_here"] : List Str) by decide +kernel) rfl (Or.inl rfl) (Or.inr rfl))) (fun _ _ _ _ => pifs_nil) (fun _ _ _ _ => (pe_ix ix_str pe_str (pe_op op_mod (pv 0) pe_int) (fun _ _ => rfl)))) pa_nil))) (pss_cons (ps_if (pt_not (pt_val (pe_call ((ok_law_in_step (P := P) (w := w) (base := base) T).mono (by decide)) hr rfl T.m_law_in_step T.F_law_in_step.kp T.b_law_in_step .nil pass0 (pa_cons (pv 8) (pa_cons (pe_op op_mod (pv 7) (pe_op op_add (pe_callB c_lenS rfl T.z_len bt_len (pa_cons (pv 8) pa_nil)) pe_int)) pa_nil))))) (pss_one (ps_ret pe_bl)) pss_nil) (pss_one (ps_ret (pe_and (pe_call ((ok_law_alike (P := P) (w := w) (base := base) T).mono (by decide)) hr rfl T.m_law_alike T.F_law_alike.kp T.b_law_alike .nil pass0 (pa_cons (pe_call ((ok_read (P := P) (w := w) (base := base) T).mono (by decide)) hr rfl T.m_read T.F_read.kp T.b_read .nil passF (pa_cons (pv 4) pa_nil)) (pa_cons (pv 2) pa_nil))) (pe_one (pe_call ((ok_law_stepped (P := P) (w := w) (base := base) T).mono (by decide)) hr rfl T.m_law_stepped T.F_law_stepped.kp T.b_law_stepped .nil pass0 (pa_cons (pv 4) (pa_cons (pv 2) (pa_cons (pv 7) pa_nil))))))))))))))))))), ?_⟩
  walk_at "S"
  refine r_I ⟨by decide, by decide, by decide⟩ ?_
  walk_at "S"
  refine r_I ⟨by decide, by decide, by decide⟩ ?_
  walk_at "S"
  refine ⟨(by show 4 ≤ sizeLine; decide), fun z1 hz1 => ?_⟩
  have g := same_new hz1 (.lst [.int 12, .int 1000, .int (10 ^ (9 : Int).toNat), .int (10 ^ (20 : Int).toNat)])
  have e1 : upd H z1 (.lst [.int 12, .int 1000, .int (10 ^ (9 : Int).toNat), .int (10 ^ (20 : Int).toNat)]) z1 = some (.lst [.int 12, .int 1000, .int (10 ^ (9 : Int).toNat), .int (10 ^ (20 : Int).toNat)]) := upd_same
  generalize upd H z1 (.lst [.int 12, .int 1000, .int (10 ^ (9 : Int).toNat), .int (10 ^ (20 : Int).toNat)]) = H1 at g e1
  walk_at "S"
  refine do_law_cell (g.seq hS) (by decide) ?_
  walk_at "S"
  refine r_I (by decide) ?_
  have k0 : 0 ≤ ns.getD (0 : Int).toNat 0 % 4 := Int.emod_nonneg _ (by decide)
  have k1 : ns.getD (0 : Int).toNat 0 % 4 < 4 := Int.emod_lt_of_pos _ (by decide)
  obtain ⟨y, hy, hmy⟩ := at_ok (l := [V.int 12, .int 1000, .int (10 ^ (9 : Int).toNat), .int (10 ^ (20 : Int).toNat)]) k0 (by simpa using k1)
  obtain ⟨sz, rfl, sz1, sz2⟩ := size_ok hmy
  walk_at "S"
  refine r_ixL (SqL.of e1) hy ?_
  clear e1 hmy hy k0 k1
  walk_at "S"
  refine r_ilist ?_
  walk_at "S"
  refine r_slL (g.seq hS) (fun p hp => ?_)
  obtain ⟨cs, ec, hcl, hcx⟩ := cut_ints ns (some 1) (some 41)
  have hc40 : cs.length ≤ 40 := by
    have h41 : HT.sIx ns.length ns.length (some 41) = min 41 ns.length := HT.sIx_nat _ _ 41
    have h1 : HT.sIx ns.length 0 (some 1) = min 1 ns.length := HT.sIx_nat _ _ 1
    rw [hcx, List.length_take, List.length_drop, h41, h1]; omega
  clear hcx
  rw [ec]
  have s2 := same_new hp (.lst (cs.map V.int))
  have ep : upd H1 p (.lst (cs.map V.int)) p = some (.lst (cs.map V.int)) := upd_same
  generalize upd H1 p (.lst (cs.map V.int)) = H2 at s2 ep
  replace g := g.trans s2
  refine ⟨p, rfl, ⟨_, SqL.of ep⟩, fun D hD => comp_list (xs := cs.map V.int) (fun i σ ys H' => Same H2 H' ∧ (∃ o, σ = [o, some (.int sz)]) ∧ (∃ ms : List Int, ys = ms.map V.int ∧ ms.length = i ∧ ∀ m ∈ ms, 1 ≤ m ∧ m ≤ 10 ^ 20) ∧ H' D = some (.lst ys))
    ⟨same_new hD _, ⟨none, rfl⟩, ⟨[], rfl, rfl, by simp⟩, upd_same⟩ ?_ ?_ ?_⟩
  · rintro i σ ys H' hi ⟨g, _, ⟨ms, rfl, hm, _⟩, e⟩
    rw [List.length_map] at hi
    exact ⟨⟨e, small1000 (by rw [List.length_map]; omega)⟩, SqL.of (g _ _ ep)⟩
  · rintro i x σ ys H' hx ⟨g, ⟨o, rfl⟩, ⟨ms, rfl, hm, hb⟩, e⟩
    obtain ⟨v, rfl, _, hi, _⟩ := map_at hx
    refine r_one ?_
    walk_at "S"
    refine r_I ⟨by decide, by decide⟩ ?_
    walk_at "S"
    refine r_I (by omega) ?_
    have k0 : 0 ≤ v / 23 % sz := Int.emod_nonneg _ (by omega)
    have k1 : v / 23 % sz < sz := Int.emod_lt_of_pos _ (by omega)
    generalize v / 23 % sz = kk at k0 k1
    walk_at "S"
    refine ⟨e, nxt (by rw [List.length_map]; exact hi) ⟨g.upd hD _, ⟨_, rfl⟩, ⟨ms ++ [1 + kk], by rw [List.map_append]; rfl, by simp [hm], fun m hmm => ?_⟩, upd_same⟩⟩
    rcases List.mem_append.mp hmm with z | z
    · exact hb m z
    · rw [List.mem_singleton.mp z]; exact ⟨by omega, by omega⟩
  rintro σ ys H3 ⟨g3, _, ⟨ms, rfl, hml, hmb⟩, eD⟩
  rw [List.length_map] at hml
  replace g := g.trans g3
  have hm60 : ∀ n ∈ ms, 1 ≤ n ∧ n < 10 ^ 60 := fun n hn => ⟨(hmb n hn).1, Int.lt_of_le_of_lt (hmb n hn).2 p2060⟩
  have hr60 : ∀ n ∈ ms.reverse, 1 ≤ n ∧ n < 10 ^ 60 := fun n hn => hm60 n (List.mem_reverse.mp hn)
  have hrb : ∀ n ∈ ms.reverse, 1 ≤ n ∧ n ≤ 10 ^ 20 := fun n hn => hmb n (List.mem_reverse.mp hn)
  have hrl : ms.reverse.length = ms.length := List.length_reverse
  have tl1 := txts_len70 hmb
  have tl2 := txts_len70 hrb
  have rd1 := rdC_txts fun n hn => (hmb n hn).1
  have rd2 := rdC_txts fun n hn => (hrb n hn).1
  have no1 := not_odd_txts ms
  have no2 := not_odd_txts ms.reverse
  walk_at "S"
  refine ⟨D, _, rfl, SqL.of eD, fun R hR => ?_⟩
  rw [← List.map_reverse]
  have s4 := same_new hR (.lst (ms.reverse.map V.int))
  have eR : upd H3 R (.lst (ms.reverse.map V.int)) R = some (.lst (ms.reverse.map V.int)) := upd_same
  generalize upd H3 R (.lst (ms.reverse.map V.int)) = H4 at s4 eR
  generalize ms.reverse = rs at hr60 hrb hrl tl2 rd2 no2 eR
  replace g := g.trans s4
  replace eD := s4 _ _ eD
  walk_at "S"
  refine ⟨D, ms, [], rfl, by rw [List.append_nil]; exact SqL.of eD, by omega, by simp, hm60, .inl ⟨rfl, fun H5 g5 => ?_⟩⟩
  replace g := g.trans g5
  replace eD := g5 _ _ eD
  replace eR := g5 _ _ eR
  have hne : (endsTo (txts ms) (txts ms).length).length = ms.length := by rw [ends_all, rd1]
  generalize txts ms = l at tl1 rd1 no1 hne
  walk_at "S"
  refine r_isi (.str _) T.i_ss ?_
  walk_at "S"
  refine iteF ?_
  walk_at "S"
  refine ⟨l, rfl, by omega, fun E H6 g6 nE eE => ?_⟩
  replace g := g.trans g6
  replace eD := g6 _ _ eD
  replace eR := g6 _ _ eR
  walk_at "S"
  refine r_iteNI (fun c => absurd (by rw [List.length_map, List.length_map, List.length_map, hne]) c) (fun _ => ?_)
  clear eE nE
  walk_at "S"
  refine ⟨a, D, ns, ms, l, rfl, g.seq hS, SqL.of eD, hl, by omega, no1, rd1, fun F1 as1 H7 g7 eF1 hH1 hf1 ha1 => ?_⟩
  replace g := g.trans g7
  replace eD := g7 _ _ eD
  replace eR := g7 _ _ eR
  walk_at "S"
  refine ⟨R, rs, [], rfl, by rw [List.append_nil]; exact SqL.of eR, by omega, by simp, hr60, .inl ⟨rfl, fun H8 g8 => ?_⟩⟩
  replace hH1 := hH1.same g8
  replace g := g.trans g8
  replace eD := g8 _ _ eD
  replace eR := g8 _ _ eR
  replace eF1 := g8 _ _ eF1
  walk_at "S"
  refine ⟨a, R, ns, rs, _, rfl, g.seq hS, SqL.of eR, hl, by omega, no2, rd2, fun F2 as2 H9 g9 eF2 hH2 hf2 ha2 => ?_⟩
  replace hH1 := hH1.same g9
  replace g := g.trans g9
  replace eD := g9 _ _ eD
  replace eR := g9 _ _ eR
  replace eF1 := g9 _ _ eF1
  walk_at "S"
  refine ⟨rfl, ?_⟩
  walk_at "S"
  refine iteF ?_
  walk_at "S"
  refine ⟨rfl, ?_⟩
  walk_at "S"
  refine iteF ?_
  walk_at "S"
  refine ⟨F1, D, as1, ms, rfl, eF1, hH1, SqL.of eD, hf1, ha1, by omega, fun H10 g10 => ?_⟩
  replace hH2 := hH2.same g10
  replace g := g.trans g10
  replace eD := g10 _ _ eD
  replace eR := g10 _ _ eR
  replace eF2 := g10 _ _ eF2
  walk_at "S"
  refine iteF ?_
  walk_at "S"
  refine ⟨F2, R, as2, rs, rfl, eF2, hH2, SqL.of eR, hf2, ha2, by omega, fun H11 g11 => ?_⟩
  replace g := g.trans g11
  replace eD := g11 _ _ eD
  walk_at "S"
  refine iteF ?_
  walk_at "S"
  refine do_law_cell (g.seq hS) (by decide) ?_
  walk_at "S"
  refine r_I ⟨by decide, by decide⟩ ?_
  walk_at "S"
  refine r_lenS (by rw [tx_len]; exact Nat.le_of_lt (small2 (by omega))) ?_
  rw [tx_len]
  walk_at "S"
  refine r_I (by omega) ?_
  have q0 : 0 ≤ ns.getD (0 : Int).toNat 0 / 4 % ((l.length : Int) + 1) := Int.emod_nonneg _ (by omega)
  have q1 : ns.getD (0 : Int).toNat 0 / 4 % ((l.length : Int) + 1) < (l.length : Int) + 1 := Int.emod_lt_of_pos _ (by omega)
  obtain ⟨pl, hpl⟩ : ∃ pl : Nat, ns.getD (0 : Int).toNat 0 / 4 % ((l.length : Int) + 1) = pl := ⟨_, (Int.toNat_of_nonneg q0).symm⟩
  rw [hpl] at q0 q1
  rw [hpl]
  walk_at "S"
  refine ⟨rfl, ?_⟩
  walk_at "S"
  refine r_ilist ?_
  walk_at "S"
  refine r_slL (g.seq hS) (fun p2 hp2 => ?_)
  rw [ec]
  have s12 := same_new hp2 (.lst (cs.map V.int))
  have ep2 : upd H11 p2 (.lst (cs.map V.int)) p2 = some (.lst (cs.map V.int)) := upd_same
  generalize upd H11 p2 (.lst (cs.map V.int)) = H12 at s12 ep2
  replace g := g.trans s12
  replace eD := s12 _ _ eD
  refine ⟨p2, rfl, ⟨_, SqL.of ep2⟩, fun D2 hD2 => comp_list (xs := cs.map V.int) (fun i σ ys H' => Same H12 H' ∧ (∃ o, σ = [o]) ∧ (∃ ds : List Nat, ys = (ds.map fun c => [c]).map (fun l => V.str (tx l)) ∧ ds.length = i) ∧ H' D2 = some (.lst ys))
    ⟨same_new hD2 _, ⟨none, rfl⟩, ⟨[], rfl, rfl⟩, upd_same⟩ ?_ ?_ ?_⟩
  · rintro i σ ys H' hi ⟨g, _, ⟨ds, rfl, hm⟩, e⟩
    rw [List.length_map] at hi
    exact ⟨⟨e, small1000 (by rw [List.length_map, List.length_map]; omega)⟩, SqL.of (g _ _ ep2)⟩
  · rintro i x σ ys H' hx ⟨g, ⟨o, rfl⟩, ⟨ds, rfl, hm⟩, e⟩
    obtain ⟨v, rfl, _, hi, _⟩ := map_at hx
    refine r_one ?_
    walk_at "S"
    refine r_I (by decide) ?_
    have k0 : 0 ≤ v % 3 := Int.emod_nonneg _ (by decide)
    have k1 : v % 3 < 3 := Int.emod_lt_of_pos _ (by decide)
    obtain ⟨c, hc, _⟩ := at_ok (l := (Str.ofString ".oo").cps.toList) k0 (by rw [str_len]; exact k1)
    refine ⟨_, _, c, rfl, rfl, by decide +kernel, hc, ?_⟩
    exact ⟨e, nxt (by rw [List.length_map]; exact hi) ⟨g.upd hD2 _, ⟨_, rfl⟩, ⟨ds ++ [c], by rw [List.map_append, List.map_append]; rfl, by simp [hm]⟩, upd_same⟩⟩
  rintro σ ys H13 ⟨g13, _, ⟨ds, rfl, hds⟩, eD2⟩
  rw [List.length_map] at hds
  replace g := g.trans g13
  replace eD := g13 _ _ eD
  rw [tx_nil]
  walk_at "S"
  refine r_join (ls := ds.map fun c => [c]) (SqL.of eD2) (by rw [flat_one]; exact Nat.le_of_lt (small2 (by omega))) ?_
  rw [flat_one]
  walk_at "S"
  refine r_lenS (by rw [tx_len]; exact Nat.le_of_lt (small2 (by omega))) ?_
  rw [tx_len]
  walk_at "S"
  refine r_I (by omega) ?_
  have w0 : 0 ≤ (pl : Int) % ((ds.length : Int) + 1) := Int.emod_nonneg _ (by omega)
  have w1 : (pl : Int) % ((ds.length : Int) + 1) < (ds.length : Int) + 1 := Int.emod_lt_of_pos _ (by omega)
  obtain ⟨pw, hpw⟩ : ∃ pw : Nat, (pl : Int) % ((ds.length : Int) + 1) = pw := ⟨_, (Int.toNat_of_nonneg w0).symm⟩
  rw [hpw] at w0 w1
  rw [hpw]
  walk_at "S"
  refine ⟨ds, pw, rfl, by omega, by omega, ?_⟩
  walk_at "S"
  refine iteF ?_
  walk_at "S"
  refine ⟨l, rfl, by omega, fun z => absurd z no1, fun _ z => absurd (by rw [rd1]) z, fun _ _ f H14 g14 hf ef => ?_⟩
  rw [rd1] at ef
  replace g := g.trans g14
  replace eD := g14 _ _ eD
  walk_at "S"
  refine do_law_alike (fs := ms) (ds := ms) ef (SqL.of eD) rfl (by omega) ?_
  walk_at "S"
  refine iteT ?_
  walk_at "S"
  exact ⟨l, D, ms, pl, rfl, SqL.of eD, by omega, by omega, no1, rd1, fun _ _ => q _⟩
end
theorem all_mk {l : PySem.W.OpenLaw} {w : World} {K : PySem.W.Frag} {h : Heap} {mg : Str → Option Value} {fa f_worths f_has_row f_has_other_sign f_Reader_init f_Reader_left f_in_step f_law_cell f_law_whole f_law_ends f_law_pieces f_law_behind f_weight f_still_heap f_law_alike f_law_in_step f_row_of f_weight_of_signs f_law_held f_shown f_Reader_feed f_written f_read f_law_refused f_law_fed f_law_stepped f_law c_StairError c_NoNumber c_NoSign c_NoEnd c_Reader : Addr} (X : K.In h) (G : h.Ns mainGlobals mg) (hfa : mg "law" = some (.ref fa))
    (v_StairError : PySem.W.nsIn K mainGlobals "StairError" = some (some (.ref c_StairError)))
    (v_NoNumber : PySem.W.nsIn K mainGlobals "NoNumber" = some (some (.ref c_NoNumber)))
    (v_NoSign : PySem.W.nsIn K mainGlobals "NoSign" = some (some (.ref c_NoSign)))
    (v_NoEnd : PySem.W.nsIn K mainGlobals "NoEnd" = some (some (.ref c_NoEnd)))
    (v_Reader : PySem.W.nsIn K mainGlobals "Reader" = some (some (.ref c_Reader)))
    {od0 an0 : Option Addr} {sl0 : Array (Option Value)} {oc0 kV0 dc0 pm0 cd0 ct0 : Value}
    (a0 : PySem.W.nsIn K mainGlobals "worths" = some (some (.ref f_worths))) (l0 : K.lookup f_worths = some ⟨oc0, od0, .func (PySem.W.fnOf "worths" "worths" (defArgs st_worths) (defBody st_worths) (defScope st_worths) .none kV0 dc0 pm0 an0 cd0 ct0), sl0⟩) (c0 : PySem.W.codeIn K cd0 "worths" = true) (k0 : PySem.W.keepIn K (.ref f_worths) = true)
    {od1 an1 : Option Addr} {sl1 : Array (Option Value)} {oc1 kV1 dc1 pm1 cd1 ct1 : Value}
    (a1 : PySem.W.nsIn K mainGlobals "has_row" = some (some (.ref f_has_row))) (l1 : K.lookup f_has_row = some ⟨oc1, od1, .func (PySem.W.fnOf "has_row" "has_row" (defArgs st_has_row) (defBody st_has_row) (defScope st_has_row) .none kV1 dc1 pm1 an1 cd1 ct1), sl1⟩) (c1 : PySem.W.codeIn K cd1 "has_row" = true) (k1 : PySem.W.keepIn K (.ref f_has_row) = true)
    {od2 an2 : Option Addr} {sl2 : Array (Option Value)} {oc2 kV2 dc2 pm2 cd2 ct2 : Value}
    (a2 : PySem.W.nsIn K mainGlobals "has_other_sign" = some (some (.ref f_has_other_sign))) (l2 : K.lookup f_has_other_sign = some ⟨oc2, od2, .func (PySem.W.fnOf "has_other_sign" "has_other_sign" (defArgs st_has_other_sign) (defBody st_has_other_sign) (defScope st_has_other_sign) .none kV2 dc2 pm2 an2 cd2 ct2), sl2⟩) (c2 : PySem.W.codeIn K cd2 "has_other_sign" = true) (k2 : PySem.W.keepIn K (.ref f_has_other_sign) = true)
    {od3 an3 : Option Addr} {sl3 : Array (Option Value)} {oc3 kV3 dc3 pm3 cd3 ct3 : Value}
    (a3 : PySem.W.findIn K (.ref c_Reader) "__init__" = some (some (.ref f_Reader_init))) (i3 : PySem.W.isFn K (.ref f_Reader_init) = true) (l3 : K.lookup f_Reader_init = some ⟨oc3, od3, .func (PySem.W.fnOf "__init__" "Reader.__init__" (defArgs st_Reader_init) (defBody st_Reader_init) (defScope st_Reader_init) .none kV3 dc3 pm3 an3 cd3 ct3), sl3⟩) (c3 : PySem.W.codeIn K cd3 "Reader.__init__" = true) (k3 : PySem.W.keepIn K (.ref f_Reader_init) = true)
    {od4 an4 : Option Addr} {sl4 : Array (Option Value)} {oc4 kV4 dc4 pm4 cd4 ct4 : Value}
    (a4 : PySem.W.findIn K (.ref c_Reader) "left" = some (some (.ref f_Reader_left))) (i4 : PySem.W.isFn K (.ref f_Reader_left) = true) (l4 : K.lookup f_Reader_left = some ⟨oc4, od4, .func (PySem.W.fnOf "left" "Reader.left" (defArgs st_Reader_left) (defBody st_Reader_left) (defScope st_Reader_left) .none kV4 dc4 pm4 an4 cd4 ct4), sl4⟩) (c4 : PySem.W.codeIn K cd4 "Reader.left" = true) (k4 : PySem.W.keepIn K (.ref f_Reader_left) = true)
    {od5 an5 : Option Addr} {sl5 : Array (Option Value)} {oc5 kV5 dc5 pm5 cd5 ct5 : Value}
    (a5 : PySem.W.nsIn K mainGlobals "in_step" = some (some (.ref f_in_step))) (l5 : K.lookup f_in_step = some ⟨oc5, od5, .func (PySem.W.fnOf "in_step" "in_step" (defArgs st_in_step) (defBody st_in_step) (defScope st_in_step) .none kV5 dc5 pm5 an5 cd5 ct5), sl5⟩) (c5 : PySem.W.codeIn K cd5 "in_step" = true) (k5 : PySem.W.keepIn K (.ref f_in_step) = true)
    {od6 an6 : Option Addr} {sl6 : Array (Option Value)} {oc6 kV6 dc6 pm6 cd6 ct6 : Value}
    (a6 : PySem.W.nsIn K mainGlobals "_law_cell" = some (some (.ref f_law_cell))) (l6 : K.lookup f_law_cell = some ⟨oc6, od6, .func (PySem.W.fnOf "_law_cell" "_law_cell" (defArgs st_law_cell) (defBody st_law_cell) (defScope st_law_cell) .none kV6 dc6 pm6 an6 cd6 ct6), sl6⟩) (c6 : PySem.W.codeIn K cd6 "_law_cell" = true) (k6 : PySem.W.keepIn K (.ref f_law_cell) = true)
    {od7 an7 : Option Addr} {sl7 : Array (Option Value)} {oc7 kV7 dc7 pm7 cd7 ct7 : Value}
    (a7 : PySem.W.nsIn K mainGlobals "_law_whole" = some (some (.ref f_law_whole))) (l7 : K.lookup f_law_whole = some ⟨oc7, od7, .func (PySem.W.fnOf "_law_whole" "_law_whole" (defArgs st_law_whole) (defBody st_law_whole) (defScope st_law_whole) .none kV7 dc7 pm7 an7 cd7 ct7), sl7⟩) (c7 : PySem.W.codeIn K cd7 "_law_whole" = true) (k7 : PySem.W.keepIn K (.ref f_law_whole) = true)
    {od8 an8 : Option Addr} {sl8 : Array (Option Value)} {oc8 kV8 dc8 pm8 cd8 ct8 : Value}
    (a8 : PySem.W.nsIn K mainGlobals "_law_ends" = some (some (.ref f_law_ends))) (l8 : K.lookup f_law_ends = some ⟨oc8, od8, .func (PySem.W.fnOf "_law_ends" "_law_ends" (defArgs st_law_ends) (defBody st_law_ends) (defScope st_law_ends) .none kV8 dc8 pm8 an8 cd8 ct8), sl8⟩) (c8 : PySem.W.codeIn K cd8 "_law_ends" = true) (k8 : PySem.W.keepIn K (.ref f_law_ends) = true)
    {od9 an9 : Option Addr} {sl9 : Array (Option Value)} {oc9 kV9 dc9 pm9 cd9 ct9 : Value}
    (a9 : PySem.W.nsIn K mainGlobals "_law_pieces" = some (some (.ref f_law_pieces))) (l9 : K.lookup f_law_pieces = some ⟨oc9, od9, .func (PySem.W.fnOf "_law_pieces" "_law_pieces" (defArgs st_law_pieces) (defBody st_law_pieces) (defScope st_law_pieces) .none kV9 dc9 pm9 an9 cd9 ct9), sl9⟩) (c9 : PySem.W.codeIn K cd9 "_law_pieces" = true) (k9 : PySem.W.keepIn K (.ref f_law_pieces) = true)
    {od10 an10 : Option Addr} {sl10 : Array (Option Value)} {oc10 kV10 dc10 pm10 cd10 ct10 : Value}
    (a10 : PySem.W.nsIn K mainGlobals "_law_behind" = some (some (.ref f_law_behind))) (l10 : K.lookup f_law_behind = some ⟨oc10, od10, .func (PySem.W.fnOf "_law_behind" "_law_behind" (defArgs st_law_behind) (defBody st_law_behind) (defScope st_law_behind) .none kV10 dc10 pm10 an10 cd10 ct10), sl10⟩) (c10 : PySem.W.codeIn K cd10 "_law_behind" = true) (k10 : PySem.W.keepIn K (.ref f_law_behind) = true)
    {od11 an11 : Option Addr} {sl11 : Array (Option Value)} {oc11 kV11 dc11 pm11 cd11 ct11 : Value}
    (a11 : PySem.W.nsIn K mainGlobals "weight" = some (some (.ref f_weight))) (l11 : K.lookup f_weight = some ⟨oc11, od11, .func (PySem.W.fnOf "weight" "weight" (defArgs st_weight) (defBody st_weight) (defScope st_weight) .none kV11 dc11 pm11 an11 cd11 ct11), sl11⟩) (c11 : PySem.W.codeIn K cd11 "weight" = true) (k11 : PySem.W.keepIn K (.ref f_weight) = true)
    {od12 an12 : Option Addr} {sl12 : Array (Option Value)} {oc12 kV12 dc12 pm12 cd12 ct12 : Value}
    (a12 : PySem.W.nsIn K mainGlobals "still_heap" = some (some (.ref f_still_heap))) (l12 : K.lookup f_still_heap = some ⟨oc12, od12, .func (PySem.W.fnOf "still_heap" "still_heap" (defArgs st_still_heap) (defBody st_still_heap) (defScope st_still_heap) .none kV12 dc12 pm12 an12 cd12 ct12), sl12⟩) (c12 : PySem.W.codeIn K cd12 "still_heap" = true) (k12 : PySem.W.keepIn K (.ref f_still_heap) = true)
    {od13 an13 : Option Addr} {sl13 : Array (Option Value)} {oc13 kV13 dc13 pm13 cd13 ct13 : Value}
    (a13 : PySem.W.nsIn K mainGlobals "_law_alike" = some (some (.ref f_law_alike))) (l13 : K.lookup f_law_alike = some ⟨oc13, od13, .func (PySem.W.fnOf "_law_alike" "_law_alike" (defArgs st_law_alike) (defBody st_law_alike) (defScope st_law_alike) .none kV13 dc13 pm13 an13 cd13 ct13), sl13⟩) (c13 : PySem.W.codeIn K cd13 "_law_alike" = true) (k13 : PySem.W.keepIn K (.ref f_law_alike) = true)
    {od14 an14 : Option Addr} {sl14 : Array (Option Value)} {oc14 kV14 dc14 pm14 cd14 ct14 : Value}
    (a14 : PySem.W.nsIn K mainGlobals "_law_in_step" = some (some (.ref f_law_in_step))) (l14 : K.lookup f_law_in_step = some ⟨oc14, od14, .func (PySem.W.fnOf "_law_in_step" "_law_in_step" (defArgs st_law_in_step) (defBody st_law_in_step) (defScope st_law_in_step) .none kV14 dc14 pm14 an14 cd14 ct14), sl14⟩) (c14 : PySem.W.codeIn K cd14 "_law_in_step" = true) (k14 : PySem.W.keepIn K (.ref f_law_in_step) = true)
    {od15 an15 : Option Addr} {sl15 : Array (Option Value)} {oc15 kV15 dc15 pm15 cd15 ct15 : Value}
    (a15 : PySem.W.nsIn K mainGlobals "row_of" = some (some (.ref f_row_of))) (l15 : K.lookup f_row_of = some ⟨oc15, od15, .func (PySem.W.fnOf "row_of" "row_of" (defArgs st_row_of) (defBody st_row_of) (defScope st_row_of) .none kV15 dc15 pm15 an15 cd15 ct15), sl15⟩) (c15 : PySem.W.codeIn K cd15 "row_of" = true) (k15 : PySem.W.keepIn K (.ref f_row_of) = true)
    {od16 an16 : Option Addr} {sl16 : Array (Option Value)} {oc16 kV16 dc16 pm16 cd16 ct16 : Value}
    (a16 : PySem.W.nsIn K mainGlobals "weight_of_signs" = some (some (.ref f_weight_of_signs))) (l16 : K.lookup f_weight_of_signs = some ⟨oc16, od16, .func (PySem.W.fnOf "weight_of_signs" "weight_of_signs" (defArgs st_weight_of_signs) (defBody st_weight_of_signs) (defScope st_weight_of_signs) .none kV16 dc16 pm16 an16 cd16 ct16), sl16⟩) (c16 : PySem.W.codeIn K cd16 "weight_of_signs" = true) (k16 : PySem.W.keepIn K (.ref f_weight_of_signs) = true)
    {od17 an17 : Option Addr} {sl17 : Array (Option Value)} {oc17 kV17 dc17 pm17 cd17 ct17 : Value}
    (a17 : PySem.W.nsIn K mainGlobals "_law_held" = some (some (.ref f_law_held))) (l17 : K.lookup f_law_held = some ⟨oc17, od17, .func (PySem.W.fnOf "_law_held" "_law_held" (defArgs st_law_held) (defBody st_law_held) (defScope st_law_held) .none kV17 dc17 pm17 an17 cd17 ct17), sl17⟩) (c17 : PySem.W.codeIn K cd17 "_law_held" = true) (k17 : PySem.W.keepIn K (.ref f_law_held) = true)
    {od18 an18 : Option Addr} {sl18 : Array (Option Value)} {oc18 kV18 dc18 pm18 cd18 ct18 : Value}
    (a18 : PySem.W.nsIn K mainGlobals "shown" = some (some (.ref f_shown))) (l18 : K.lookup f_shown = some ⟨oc18, od18, .func (PySem.W.fnOf "shown" "shown" (defArgs st_shown) (defBody st_shown) (defScope st_shown) .none kV18 dc18 pm18 an18 cd18 ct18), sl18⟩) (c18 : PySem.W.codeIn K cd18 "shown" = true) (k18 : PySem.W.keepIn K (.ref f_shown) = true)
    {od19 an19 : Option Addr} {sl19 : Array (Option Value)} {oc19 kV19 dc19 pm19 cd19 ct19 : Value}
    (a19 : PySem.W.findIn K (.ref c_Reader) "feed" = some (some (.ref f_Reader_feed))) (i19 : PySem.W.isFn K (.ref f_Reader_feed) = true) (l19 : K.lookup f_Reader_feed = some ⟨oc19, od19, .func (PySem.W.fnOf "feed" "Reader.feed" (defArgs st_Reader_feed) (defBody st_Reader_feed) (defScope st_Reader_feed) .none kV19 dc19 pm19 an19 cd19 ct19), sl19⟩) (c19 : PySem.W.codeIn K cd19 "Reader.feed" = true) (k19 : PySem.W.keepIn K (.ref f_Reader_feed) = true)
    {od20 an20 : Option Addr} {sl20 : Array (Option Value)} {oc20 kV20 dc20 pm20 cd20 ct20 : Value}
    (a20 : PySem.W.nsIn K mainGlobals "written" = some (some (.ref f_written))) (l20 : K.lookup f_written = some ⟨oc20, od20, .func (PySem.W.fnOf "written" "written" (defArgs st_written) (defBody st_written) (defScope st_written) .none kV20 dc20 pm20 an20 cd20 ct20), sl20⟩) (c20 : PySem.W.codeIn K cd20 "written" = true) (k20 : PySem.W.keepIn K (.ref f_written) = true)
    {od21 an21 : Option Addr} {sl21 : Array (Option Value)} {oc21 kV21 dc21 pm21 cd21 ct21 : Value}
    (a21 : PySem.W.nsIn K mainGlobals "read" = some (some (.ref f_read))) (l21 : K.lookup f_read = some ⟨oc21, od21, .func (PySem.W.fnOf "read" "read" (defArgs st_read) (defBody st_read) (defScope st_read) .none kV21 dc21 pm21 an21 cd21 ct21), sl21⟩) (c21 : PySem.W.codeIn K cd21 "read" = true) (k21 : PySem.W.keepIn K (.ref f_read) = true)
    {od22 an22 : Option Addr} {sl22 : Array (Option Value)} {oc22 kV22 dc22 pm22 cd22 ct22 : Value}
    (a22 : PySem.W.nsIn K mainGlobals "_law_refused" = some (some (.ref f_law_refused))) (l22 : K.lookup f_law_refused = some ⟨oc22, od22, .func (PySem.W.fnOf "_law_refused" "_law_refused" (defArgs st_law_refused) (defBody st_law_refused) (defScope st_law_refused) .none kV22 dc22 pm22 an22 cd22 ct22), sl22⟩) (c22 : PySem.W.codeIn K cd22 "_law_refused" = true) (k22 : PySem.W.keepIn K (.ref f_law_refused) = true)
    {od23 an23 : Option Addr} {sl23 : Array (Option Value)} {oc23 kV23 dc23 pm23 cd23 ct23 : Value}
    (a23 : PySem.W.nsIn K mainGlobals "_law_fed" = some (some (.ref f_law_fed))) (l23 : K.lookup f_law_fed = some ⟨oc23, od23, .func (PySem.W.fnOf "_law_fed" "_law_fed" (defArgs st_law_fed) (defBody st_law_fed) (defScope st_law_fed) .none kV23 dc23 pm23 an23 cd23 ct23), sl23⟩) (c23 : PySem.W.codeIn K cd23 "_law_fed" = true) (k23 : PySem.W.keepIn K (.ref f_law_fed) = true)
    {od24 an24 : Option Addr} {sl24 : Array (Option Value)} {oc24 kV24 dc24 pm24 cd24 ct24 : Value}
    (a24 : PySem.W.nsIn K mainGlobals "_law_stepped" = some (some (.ref f_law_stepped))) (l24 : K.lookup f_law_stepped = some ⟨oc24, od24, .func (PySem.W.fnOf "_law_stepped" "_law_stepped" (defArgs st_law_stepped) (defBody st_law_stepped) (defScope st_law_stepped) .none kV24 dc24 pm24 an24 cd24 ct24), sl24⟩) (c24 : PySem.W.codeIn K cd24 "_law_stepped" = true) (k24 : PySem.W.keepIn K (.ref f_law_stepped) = true)
    {od25 an25 : Option Addr} {sl25 : Array (Option Value)} {oc25 kV25 dc25 pm25 cd25 ct25 : Value}
    (a25 : PySem.W.nsIn K mainGlobals "law" = some (some (.ref f_law))) (l25 : K.lookup f_law = some ⟨oc25, od25, .func (PySem.W.fnOf "law" "law" (defArgs st_law) (defBody st_law) (defScope st_law) .none kV25 dc25 pm25 an25 cd25 ct25), sl25⟩) (c25 : PySem.W.codeIn K cd25 "law" = true) (k25 : PySem.W.keepIn K (.ref f_law) = true)
    (z0 : PySem.W.nsIn K mainGlobals "ValueError" = some none)
    (z1 : PySem.W.nsIn K mainGlobals "bool" = some none)
    (z2 : PySem.W.nsIn K mainGlobals "int" = some none)
    (z3 : PySem.W.nsIn K mainGlobals "isinstance" = some none)
    (z4 : PySem.W.nsIn K mainGlobals "len" = some none)
    (z5 : PySem.W.nsIn K mainGlobals "list" = some none)
    (z6 : PySem.W.nsIn K mainGlobals "min" = some none)
    (z7 : PySem.W.nsIn K mainGlobals "range" = some none)
    (z8 : PySem.W.nsIn K mainGlobals "reversed" = some none)
    (z9 : PySem.W.nsIn K mainGlobals "str" = some none)
    (z10 : PySem.W.nsIn K mainGlobals "sum" = some none)
    (z11 : PySem.W.nsIn K mainGlobals "zip" = some none)
    (pg_Reader : PySem.W.plainGet K c_Reader Str.empty = true) (hd_Reader : PySem.W.hasDictIn K c_Reader = true) (po_Reader : PySem.W.plainOver K c_Reader = true) (sa_Reader : PySem.W.findIn K (.ref c_Reader) "__setattr__" = some (some (.builtin "object.__setattr__"))) (mk_Reader : PySem.W.makesIn K c_Reader = true) (kc_Reader : PySem.W.keepIn K (.ref c_Reader) = true)
    (n_Reader_kept : PySem.W.findIn K (.ref c_Reader) "kept" = some none)
    (e0 : PySem.W.kitOne K (.type "int") (.type "int") = some true)
    (e1 : PySem.W.kitOne K (.type "int") (.type "bool") = some false)
    (e2 : PySem.W.kitOne K (.type "bool") (.type "bool") = some true)
    (e3 : PySem.W.kitOne K (.type "list") (.type "list") = some true)
    (e4 : PySem.W.kitOne K (.type "tuple") (.type "tuple") = some true)
    (e5 : PySem.W.kitOne K (.type "str") (.type "str") = some true)
    (e6 : PySem.W.excIn K c_NoNumber [.type "ValueError", .type "Exception", .type "BaseException", .type "object"] "ValueError.__new__" = true)
    (e7 : PySem.W.excIn K c_NoSign [.type "ValueError", .type "Exception", .type "BaseException", .type "object"] "ValueError.__new__" = true)
    (e8 : PySem.W.excIn K c_NoEnd [.type "ValueError", .type "Exception", .type "BaseException", .type "object"] "ValueError.__new__" = true)
    (e9 : PySem.W.kitOne K (.type "bool") (.type "int") = some true)
    (e10 : PySem.W.kitOne K (.type "NoneType") (.type "int") = some false)
    (e11 : PySem.W.kitOne K (.type "str") (.type "int") = some false)
    (e12 : PySem.W.kitOne K (.type "list") (.type "int") = some false)
    (e13 : PySem.W.exmAny K (.ref c_NoSign) [.ref c_NoEnd, .ref c_NoNumber] = some false)
    (e14 : PySem.W.exmAny K (.ref c_NoSign) [.ref c_NoSign] = some true)
    (e15 : PySem.W.kitOne K (.ref c_NoSign) (.ref c_StairError) = some true)
    (e16 : PySem.W.isClsIn K c_NoSign = true)
    (e17 : PySem.W.findIn K (.ref c_NoSign) "__getattribute__" = some (some (.builtin "BaseException.__getattribute__")))
    (e18 : PySem.W.findIn K (.ref c_NoSign) "__getattr__" = some none)
    (e19 : PySem.W.findIn K (.ref c_NoSign) "__class__" = some (some (.builtin "object.__class__")))
    (e20 : PySem.W.mroIn K c_NoSign (.type "object") = some true)
    (e21 : PySem.W.mroIn K c_NoSign (.type "BaseException") = some true)
    : ∃ fd : FuncData, (∀ (s : Shared) (v : Value), BindsTo s fd ⟨[v], []⟩ [("_law_script", v)]) ∧ ∀ base : Heap, K.In base → base.Ns mainGlobals mg → FnOk l.prog w K mg base CX0 7 fa fd ["_law_script"] (sp_law K) := by
  have e := hfa.symm.trans (PySem.W.mg_of X G a25)
  cases e
  have F0 := fun_mk (st := st_worths) l0 c0 k0
  have b0 := F0.binds (ps := ["count"]) fun _ _ _ _ _ _ us hl => match us, hl with | [_], _ => rfl
  have F1 := fun_mk (st := st_has_row) l1 c1 k1
  have b1 := F1.binds (ps := ["number"]) fun _ _ _ _ _ _ us hl => match us, hl with | [_], _ => rfl
  have F2 := fun_mk (st := st_has_other_sign) l2 c2 k2
  have b2 := F2.binds (ps := ["text"]) fun _ _ _ _ _ _ us hl => match us, hl with | [_], _ => rfl
  have F3 := fun_mk (st := st_Reader_init) l3 c3 k3
  have b3 := F3.binds (ps := ["self"]) fun _ _ _ _ _ _ us hl => match us, hl with | [_], _ => rfl
  have F4 := fun_mk (st := st_Reader_left) l4 c4 k4
  have b4 := F4.binds (ps := ["self"]) fun _ _ _ _ _ _ us hl => match us, hl with | [_], _ => rfl
  have F5 := fun_mk (st := st_in_step) l5 c5 k5
  have b5 := F5.binds (ps := ["text", "place"]) fun _ _ _ _ _ _ us hl => match us, hl with | [_, _], _ => rfl
  have F6 := fun_mk (st := st_law_cell) l6 c6 k6
  have b6 := F6.binds (ps := ["_law_script", "_law_k"]) fun _ _ _ _ _ _ us hl => match us, hl with | [_, _], _ => rfl
  have F7 := fun_mk (st := st_law_whole) l7 c7 k7
  have b7 := F7.binds (ps := ["_law_found"]) fun _ _ _ _ _ _ us hl => match us, hl with | [_], _ => rfl
  have F8 := fun_mk (st := st_law_ends) l8 c8 k8
  have b8 := F8.binds (ps := ["_law_text"]) fun _ _ _ _ _ _ us hl => match us, hl with | [_], _ => rfl
  have F9 := fun_mk (st := st_law_pieces) l9 c9 k9
  have b9 := F9.binds (ps := ["_law_script", "_law_text"]) fun _ _ _ _ _ _ us hl => match us, hl with | [_, _], _ => rfl
  have F10 := fun_mk (st := st_law_behind) l10 c10 k10
  have b10 := F10.binds (ps := ["_law_text", "_law_place"]) fun _ _ _ _ _ _ us hl => match us, hl with | [_, _], _ => rfl
  have F11 := fun_mk (st := st_weight) l11 c11 k11
  have b11 := F11.binds (ps := ["heap"]) fun _ _ _ _ _ _ us hl => match us, hl with | [_], _ => rfl
  have F12 := fun_mk (st := st_still_heap) l12 c12 k12
  have b12 := F12.binds (ps := ["total"]) fun _ _ _ _ _ _ us hl => match us, hl with | [_], _ => rfl
  have F13 := fun_mk (st := st_law_alike) l13 c13 k13
  have b13 := F13.binds (ps := ["_law_found", "_law_due"]) fun _ _ _ _ _ _ us hl => match us, hl with | [_, _], _ => rfl
  have F14 := fun_mk (st := st_law_in_step) l14 c14 k14
  have b14 := F14.binds (ps := ["_law_text", "_law_place"]) fun _ _ _ _ _ _ us hl => match us, hl with | [_, _], _ => rfl
  have F15 := fun_mk (st := st_row_of) l15 c15 k15
  have b15 := F15.binds (ps := ["number"]) fun _ _ _ _ _ _ us hl => match us, hl with | [_], _ => rfl
  have F16 := fun_mk (st := st_weight_of_signs) l16 c16 k16
  have b16 := F16.binds (ps := ["signs"]) fun _ _ _ _ _ _ us hl => match us, hl with | [_], _ => rfl
  have F17 := fun_mk (st := st_law_held) l17 c17 k17
  have b17 := F17.binds (ps := ["_law_held_here", "_law_numbers"]) fun _ _ _ _ _ _ us hl => match us, hl with | [_, _], _ => rfl
  have F18 := fun_mk (st := st_shown) l18 c18 k18
  have b18 := F18.binds (ps := ["number"]) fun _ _ _ _ _ _ us hl => match us, hl with | [_], _ => rfl
  have F19 := fun_mk (st := st_Reader_feed) l19 c19 k19
  have b19 := F19.binds (ps := ["self", "piece"]) fun _ _ _ _ _ _ us hl => match us, hl with | [_, _], _ => rfl
  have F20 := fun_mk (st := st_written) l20 c20 k20
  have b20 := F20.binds (ps := ["numbers"]) fun _ _ _ _ _ _ us hl => match us, hl with | [_], _ => rfl
  have F21 := fun_mk (st := st_read) l21 c21 k21
  have b21 := F21.binds (ps := ["text"]) fun _ _ _ _ _ _ us hl => match us, hl with | [_], _ => rfl
  have F22 := fun_mk (st := st_law_refused) l22 c22 k22
  have b22 := F22.binds (ps := ["_law_reader", "_law_piece", "_law_script"]) fun _ _ _ _ _ _ us hl => match us, hl with | [_, _, _], _ => rfl
  have F23 := fun_mk (st := st_law_fed) l23 c23 k23
  have b23 := F23.binds (ps := ["_law_script", "_law_text", "_law_numbers"]) fun _ _ _ _ _ _ us hl => match us, hl with | [_, _, _], _ => rfl
  have F24 := fun_mk (st := st_law_stepped) l24 c24 k24
  have b24 := F24.binds (ps := ["_law_text", "_law_numbers", "_law_place"]) fun _ _ _ _ _ _ us hl => match us, hl with | [_, _, _], _ => rfl
  have F25 := fun_mk (st := st_law) l25 c25 k25
  have b25 := F25.binds (ps := ["_law_script"]) fun _ _ _ _ _ _ us hl => match us, hl with | [_], _ => rfl
  have T : Txt K mg _ _ _ _ _ _ _ _ _ _ _ _ _ _ _ _ _ _ _ _ _ _ _ _ _ _ c_StairError c_NoNumber c_NoSign c_NoEnd c_Reader _ _ _ _ _ _ _ _ _ _ _ _ _ _ _ _ _ _ _ _ _ _ _ _ _ _ := ⟨PySem.W.mg_of X G v_StairError, PySem.W.mg_of X G v_NoNumber, PySem.W.mg_of X G v_NoSign, PySem.W.mg_of X G v_NoEnd, PySem.W.mg_of X G v_Reader, F0, b0, PySem.W.mg_of X G a0, F1, b1, PySem.W.mg_of X G a1, F2, b2, PySem.W.mg_of X G a2, F3, b3, ⟨mk_Reader, a3, i3, kc_Reader⟩, F4, b4, ⟨a4, i4, k4⟩, F5, b5, PySem.W.mg_of X G a5, F6, b6, PySem.W.mg_of X G a6, F7, b7, PySem.W.mg_of X G a7, F8, b8, PySem.W.mg_of X G a8, F9, b9, PySem.W.mg_of X G a9, F10, b10, PySem.W.mg_of X G a10, F11, b11, PySem.W.mg_of X G a11, F12, b12, PySem.W.mg_of X G a12, F13, b13, PySem.W.mg_of X G a13, F14, b14, PySem.W.mg_of X G a14, F15, b15, PySem.W.mg_of X G a15, F16, b16, PySem.W.mg_of X G a16, F17, b17, PySem.W.mg_of X G a17, F18, b18, PySem.W.mg_of X G a18, F19, b19, ⟨a19, i19, k19⟩, F20, b20, PySem.W.mg_of X G a20, F21, b21, PySem.W.mg_of X G a21, F22, b22, PySem.W.mg_of X G a22, F23, b23, PySem.W.mg_of X G a23, F24, b24, PySem.W.mg_of X G a24, F25, b25, PySem.W.mg_of X G a25, PySem.W.mg_none_of X G z0, PySem.W.mg_none_of X G z1, PySem.W.mg_none_of X G z2, PySem.W.mg_none_of X G z3, PySem.W.mg_none_of X G z4, PySem.W.mg_none_of X G z5, PySem.W.mg_none_of X G z6, PySem.W.mg_none_of X G z7, PySem.W.mg_none_of X G z8, PySem.W.mg_none_of X G z9, PySem.W.mg_none_of X G z10, PySem.W.mg_none_of X G z11, ⟨pg_Reader, hd_Reader, po_Reader, sa_Reader⟩, n_Reader_kept, e0, e1, e2, e3, e4, e5, e6, e7, e8, e9, e10, e11, e12, e13, e14, e15, e16, e17, e18, e19, e20, e21⟩
  refine ⟨(PySem.W.fnOf "law" "law" (defArgs st_law) (defBody st_law) (defScope st_law) .none kV25 dc25 pm25 an25 cd25 ct25), fun s v => .of_eq rfl, fun base _ _ => ?_⟩
  exact ok_law T
theorem walk {l : PySem.W.OpenLaw} {q : Program} {loose : List Str} {XP : (Str → Option Value) → Heap → Prop} {YP : World → Heap → Prop} {d : DefRec} {K : Params → PySem.W.Frag} (hn : l.most = some 63) (hdf : d.params.defaults = [])
    (hY : ∀ (w : World) (h : Heap), YP w h → (K w.params).In h)
    (F : ∀ (w : World) (mg : Str → Option Value) (fa : Addr) (h : Heap), (K w.params).In h → h.Ns mainGlobals mg → mg d.name = some (.ref fa) →
      ∃ fd : FuncData, (∀ (s : Shared) (u : Value), BindsTo s fd ⟨[u], []⟩ [("_law_script", u)]) ∧ ∀ base : Heap, (K w.params).In base → base.Ns mainGlobals mg → FnOk l.prog w (K w.params) mg base CX0 7 fa fd ["_law_script"] (sp_law (K w.params))) :
    PySem.W.WalkO q loose XP YP l.row.toRowW d [] (fun f vs => PySem.call f vs) :=
  L2.walk_of (n := 63) (k := 7) (x := "_law_script") (CX := fun _ => CX0) (sp := fun w => sp_law (K w.params)) hn (by decide) hdf ⟨rfl, by decide, by decide⟩ hY F (fun _ _ a ns hl _ hS => ⟨a, ns, rfl, hS, hl, fun _ => rfl⟩) fun _ _ _ _ _ z => z
end My
open PySem PySem.W PyProof.Rows
set_option maxRecDepth 100000 in
set_option maxHeartbeats 0 in
theorem PySem.Challenge.cw_shellstair_k12_whole_in_pieces_holds : PySem.Challenge.rw_shellstair_k12_whole_in_pieces.Holds := by
  w_on; o_law; k_head; (case hw => w_witness2)
  k_fill
  refine My.walk (l := PySem.Challenge.rw_shellstair_k12_whole_in_pieces) rfl rfl (fun w h Y => PySem.W.kIn_of Y) ?F
  case F =>
    intro w mg fa h KX G hmg
    refine' My.all_mk KX G hmg ?v_StairError ?v_NoNumber ?v_NoSign ?v_NoEnd ?v_Reader ?a0 ?l0 ?c0 ?k0 ?a1 ?l1 ?c1 ?k1 ?a2 ?l2 ?c2 ?k2 ?a3 ?i3 ?l3 ?c3 ?k3 ?a4 ?i4 ?l4 ?c4 ?k4 ?a5 ?l5 ?c5 ?k5 ?a6 ?l6 ?c6 ?k6 ?a7 ?l7 ?c7 ?k7 ?a8 ?l8 ?c8 ?k8 ?a9 ?l9 ?c9 ?k9 ?a10 ?l10 ?c10 ?k10 ?a11 ?l11 ?c11 ?k11 ?a12 ?l12 ?c12 ?k12 ?a13 ?l13 ?c13 ?k13 ?a14 ?l14 ?c14 ?k14 ?a15 ?l15 ?c15 ?k15 ?a16 ?l16 ?c16 ?k16 ?a17 ?l17 ?c17 ?k17 ?a18 ?l18 ?c18 ?k18 ?a19 ?i19 ?l19 ?c19 ?k19 ?a20 ?l20 ?c20 ?k20 ?a21 ?l21 ?c21 ?k21 ?a22 ?l22 ?c22 ?k22 ?a23 ?l23 ?c23 ?k23 ?a24 ?l24 ?c24 ?k24 ?a25 ?l25 ?c25 ?k25 ?z0 ?z1 ?z2 ?z3 ?z4 ?z5 ?z6 ?z7 ?z8 ?z9 ?z10 ?z11 ?pg_Reader ?hd_Reader ?po_Reader ?sa_Reader ?mk_Reader ?kc_Reader ?n_Reader_kept ?e0 ?e1 ?e2 ?e3 ?e4 ?e5 ?e6 ?e7 ?e8 ?e9 ?e10 ?e11 ?e12 ?e13 ?e14 ?e15 ?e16 ?e17 ?e18 ?e19 ?e20 ?e21
    (case v_StairError => k_is)
    (case v_NoNumber => k_is)
    (case v_NoSign => k_is)
    (case v_NoEnd => k_is)
    (case v_Reader => k_is)
    (case a0 => k_is); (case l0 => k_is); (case c0 => k_is); (case k0 => k_is)
    (case a1 => k_is); (case l1 => k_is); (case c1 => k_is); (case k1 => k_is)
    (case a2 => k_is); (case l2 => k_is); (case c2 => k_is); (case k2 => k_is)
    (case a3 => k_is); (case i3 => k_is); (case l3 => k_is); (case c3 => k_is); (case k3 => k_is)
    (case a4 => k_is); (case i4 => k_is); (case l4 => k_is); (case c4 => k_is); (case k4 => k_is)
    (case a5 => k_is); (case l5 => k_is); (case c5 => k_is); (case k5 => k_is)
    (case a6 => k_is); (case l6 => k_is); (case c6 => k_is); (case k6 => k_is)
    (case a7 => k_is); (case l7 => k_is); (case c7 => k_is); (case k7 => k_is)
    (case a8 => k_is); (case l8 => k_is); (case c8 => k_is); (case k8 => k_is)
    (case a9 => k_is); (case l9 => k_is); (case c9 => k_is); (case k9 => k_is)
    (case a10 => k_is); (case l10 => k_is); (case c10 => k_is); (case k10 => k_is)
    (case a11 => k_is); (case l11 => k_is); (case c11 => k_is); (case k11 => k_is)
    (case a12 => k_is); (case l12 => k_is); (case c12 => k_is); (case k12 => k_is)
    (case a13 => k_is); (case l13 => k_is); (case c13 => k_is); (case k13 => k_is)
    (case a14 => k_is); (case l14 => k_is); (case c14 => k_is); (case k14 => k_is)
    (case a15 => k_is); (case l15 => k_is); (case c15 => k_is); (case k15 => k_is)
    (case a16 => k_is); (case l16 => k_is); (case c16 => k_is); (case k16 => k_is)
    (case a17 => k_is); (case l17 => k_is); (case c17 => k_is); (case k17 => k_is)
    (case a18 => k_is); (case l18 => k_is); (case c18 => k_is); (case k18 => k_is)
    (case a19 => k_is); (case i19 => k_is); (case l19 => k_is); (case c19 => k_is); (case k19 => k_is)
    (case a20 => k_is); (case l20 => k_is); (case c20 => k_is); (case k20 => k_is)
    (case a21 => k_is); (case l21 => k_is); (case c21 => k_is); (case k21 => k_is)
    (case a22 => k_is); (case l22 => k_is); (case c22 => k_is); (case k22 => k_is)
    (case a23 => k_is); (case l23 => k_is); (case c23 => k_is); (case k23 => k_is)
    (case a24 => k_is); (case l24 => k_is); (case c24 => k_is); (case k24 => k_is)
    (case a25 => k_is); (case l25 => k_is); (case c25 => k_is); (case k25 => k_is)
    (case z0 => k_is)
    (case z1 => k_is)
    (case z2 => k_is)
    (case z3 => k_is)
    (case z4 => k_is)
    (case z5 => k_is)
    (case z6 => k_is)
    (case z7 => k_is)
    (case z8 => k_is)
    (case z9 => k_is)
    (case z10 => k_is)
    (case z11 => k_is)
    (case pg_Reader => k_is)
    (case hd_Reader => k_is)
    (case po_Reader => k_is)
    (case sa_Reader => k_is)
    (case mk_Reader => k_is)
    (case kc_Reader => k_is)
    (case n_Reader_kept => k_is)
    (case e0 => first | k_is | kit_is | k_exc | kts_exm)
    (case e1 => first | k_is | kit_is | k_exc | kts_exm)
    (case e2 => first | k_is | kit_is | k_exc | kts_exm)
    (case e3 => first | k_is | kit_is | k_exc | kts_exm)
    (case e4 => first | k_is | kit_is | k_exc | kts_exm)
    (case e5 => first | k_is | kit_is | k_exc | kts_exm)
    (case e6 => first | k_is | kit_is | k_exc | kts_exm)
    (case e7 => first | k_is | kit_is | k_exc | kts_exm)
    (case e8 => first | k_is | kit_is | k_exc | kts_exm)
    (case e9 => first | k_is | kit_is | k_exc | kts_exm)
    (case e10 => first | k_is | kit_is | k_exc | kts_exm)
    (case e11 => first | k_is | kit_is | k_exc | kts_exm)
    (case e12 => first | k_is | kit_is | k_exc | kts_exm)
    (case e13 => first | k_is | kit_is | k_exc | kts_exm)
    (case e14 => first | k_is | kit_is | k_exc | kts_exm)
    (case e15 => first | k_is | kit_is | k_exc | kts_exm)
    (case e16 => first | k_is | kit_is | k_exc | kts_exm)
    (case e17 => first | k_is | kit_is | k_exc | kts_exm)
    (case e18 => first | k_is | kit_is | k_exc | kts_exm)
    (case e19 => first | k_is | kit_is | k_exc | kts_exm)
    (case e20 => first | k_is | kit_is | k_exc | kts_exm)
    (case e21 => first | k_is | kit_is | k_exc | kts_exm)
