import PyProof.Rows.All
import Wide.All
import OpenK.AllK
import Wide.FinOn
import Lean
import PyProof.EqAt
import PyProof.EqKinds
import PyProof.TupleCall
import PySem.Challenge.RW_dampfield_k16_games_refused
set_option Elab.async false
set_option linter.all false
set_option maxRecDepth 100000
/-! THE HAND LAYER, for ints, bools, texts, own classes, LISTS and tuples (index, slices, in, append, pop ..), calls, loops. Paste it whole ahead of your own text; what your proof does not reach may be deleted. -/
namespace L2
open PySem PySem.Spec PyProof.Rows

/-- a key: an int or a str -/
abbrev Key := Sum Int Str
def keyIs : Key → Value → Bool
  | .inl k, v => Value.isInt k v
  | .inr x, v => Value.isStrOf x v
def keyH (w : World) : Key → Int
  | .inl k => hashInt k
  | .inr x => hashStr w x
theorem keyIs_shape : ∀ {k : Key} {v : Value}, keyIs k v = true → (∃ i t, k = Sum.inl i ∧ v = Value.int i t) ∨ (∃ x t, k = Sum.inr x ∧ v = Value.str x t)
  | .inl i, v, h => by
    obtain ⟨t, e⟩ := Value.isInt_shape (k := i) (v := v) h
    exact .inl ⟨i, t, rfl, e⟩
  | .inr x, v, h => by
    obtain ⟨t, e⟩ := Value.isStrOf_shape (x := x) (v := v) h
    exact .inr ⟨x, t, rfl, e⟩
theorem keyIs_int (i : Int) (t : Tok) : keyIs (.inl i) (.int i t) = true := by simp [keyIs, Value.isInt]
theorem keyIs_str (x : Str) (t : Tok) : keyIs (.inr x) (.str x t) = true := by simp [keyIs, Value.isStrOf]
theorem key_ll (a b : Int) : decide ((Sum.inl a : Key) = Sum.inl b) = (a == b) := by
  by_cases e : a = b
  · subst e; simp
  · have h : ¬ (Sum.inl a : Key) = Sum.inl b := fun q => e (Sum.inl.inj q)
    rw [decide_eq_false h]
    exact (beq_eq_false_iff_ne.mpr e).symm
theorem key_rr (a b : Str) : decide ((Sum.inr a : Key) = Sum.inr b) = decide (a = b) := by
  by_cases e : a = b
  · subst e; simp
  · have h : ¬ (Sum.inr a : Key) = Sum.inr b := fun q => e (Sum.inr.inj q)
    rw [decide_eq_false h, decide_eq_false e]
theorem key_lr (a : Int) (b : Str) : decide ((Sum.inl a : Key) = Sum.inr b) = false := decide_eq_false (fun q => nomatch q)
theorem key_rl (a : Str) (b : Int) : decide ((Sum.inr a : Key) = Sum.inl b) = false := decide_eq_false (fun q => nomatch q)

def mixKind (prog : Program) (w : World) : PySem.KeyKind prog w Key where
  is := keyIs
  hash := keyH w
  inj := fun v a b ha hb => by
    rcases keyIs_shape ha with ⟨i, t, rfl, rfl⟩ | ⟨x, t, rfl, rfl⟩
    · rcases keyIs_shape hb with ⟨j, u, rfl, e⟩ | ⟨y, u, rfl, e⟩
      · injection e with e1 _; rw [e1]
      · exact nomatch e
    · rcases keyIs_shape hb with ⟨j, u, rfl, e⟩ | ⟨y, u, rfl, e⟩
      · exact nomatch e
      · injection e with e1 _; rw [e1]
  byValue := fun k v h => by
    rcases keyIs_shape h with ⟨i, t, rfl, rfl⟩ | ⟨x, t, rfl, rfl⟩ <;> rfl
  pyHash := fun hv h => by
    rcases keyIs_shape hv with ⟨i, t, rfl, rfl⟩ | ⟨x, t, rfl, rfl⟩
    · exact wpAny_pyHash_int h
    · exact wpAny_pyHash_str h
  eqBool := fun hu hv h => by
    rcases keyIs_shape hu with ⟨i, t, rfl, rfl⟩ | ⟨x, t, rfl, rfl⟩
    · rcases keyIs_shape hv with ⟨j, u, rfl, rfl⟩ | ⟨y, u, rfl, rfl⟩
      · rw [key_ll] at h; exact wpAny_eqBool_int h
      · rw [key_lr] at h; exact SeqAt.EqAt.int_str i t y u _ _ _ _ h
    · rcases keyIs_shape hv with ⟨j, u, rfl, rfl⟩ | ⟨y, u, rfl, rfl⟩
      · rw [key_rl] at h; exact SeqAt.EqAt.str_int x t j u _ _ _ _ h
      · rw [key_rr] at h; exact wpAny_eqBool_str h
  «strs» := fun k x t v h => by
    rcases keyIs_shape h with ⟨i, u, rfl, e⟩ | ⟨y, u, rfl, e⟩
    · exact nomatch e
    · injection e with e1 _
      subst e1
      cases v <;> rfl

theorem mixKind_is (prog : Program) (w : World) (k : Key) (v : Value) : (mixKind prog w).is k v = keyIs k v := rfl
theorem mixKind_int (prog : Program) (w : World) (i : Int) (t : Tok) : (mixKind prog w).is (.inl i) (.int i t) = true := keyIs_int i t
theorem mixKind_str (prog : Program) (w : World) (x : Str) (t : Tok) : (mixKind prog w).is (.inr x) (.str x t) = true := keyIs_str x t
end L2

namespace L2
open PySem PySem.Spec PyProof.Rows

/-- a value, without the heap -/
inductive V where
  | non | bl (b : Bool) | int (i : Int) | str (x : Str) | byt (b : Array UInt8) | flt (b : UInt64) | ref (a : Addr) | ty (n : String)
  deriving DecidableEq

def RelV : V → Value → Prop
  | .non, u => u = Value.none
  | .bl b, u => u = Value.bool b
  | .int i, u => ∃ t, u = Value.int i t
  | .str x, u => ∃ t, u = Value.str x t
  | .byt b, u => ∃ t, u = Value.bytes b t
  | .flt b, u => ∃ t, u = Value.float b t
  | .ref a, u => u = Value.ref a
  | .ty n, u => u = Value.type n

abbrev Vals : List V → List Value → Prop := Paired RelV
theorem Vals.length {xs : List V} {us : List Value} (r : Vals xs us) : xs.length = us.length := Paired.length r
theorem Vals.get : ∀ {xs : List V} {us : List Value} {i : Nat} {x : V}, Vals xs us → xs[i]? = some x → ∃ u, us[i]? = some u ∧ RelV x u
  | _, _, _, _, .nil, e => by simp at e
  | _, _, 0, _, .cons r _, e => by simp at e; subst e; exact ⟨_, rfl, r⟩
  | _, _, i + 1, x, .cons _ t, e => by
    obtain ⟨u, h1, h2⟩ := Vals.get (i := i) (x := x) t (by simpa using e)
    exact ⟨u, by simpa using h1, h2⟩
theorem Vals.set {x : V} {u : Value} (r : RelV x u) : ∀ {xs : List V} {us : List Value} (i : Nat), Vals xs us → Vals (xs.set i x) (us.set i u)
  | _, _, _, .nil => .nil
  | _, _, 0, .cons _ t => .cons r t
  | _, _, i + 1, .cons q t => .cons q (Vals.set r i t)
theorem Vals.append : ∀ {xs ys : List V} {us ws : List Value}, Vals xs us → Vals ys ws → Vals (xs ++ ys) (us ++ ws)
  | _, _, _, _, .nil, s => s
  | _, _, _, _, .cons r t, s => .cons r (Vals.append t s)
theorem Vals.take : ∀ {xs : List V} {us : List Value} (n : Nat), Vals xs us → Vals (xs.take n) (us.take n)
  | _, _, 0, _ => .nil
  | _, _, _ + 1, .nil => .nil
  | _, _, n + 1, .cons r t => .cons r (Vals.take n t)
theorem Vals.drop : ∀ {xs : List V} {us : List Value} (n : Nat), Vals xs us → Vals (xs.drop n) (us.drop n)
  | _, _, 0, r => r
  | _, _, _ + 1, .nil => .nil
  | _, _, n + 1, .cons _ t => Vals.drop n t
theorem Vals.none_of : ∀ {xs : List V} {us : List Value} {i : Nat}, Vals xs us → xs[i]? = none → us[i]? = none := fun {xs us i} r e => by
  have h1 := r.length
  have h2 : xs.length ≤ i := List.getElem?_eq_none_iff.mp e
  exact List.getElem?_eq_none_iff.mpr (by omega)

def RelO : Option V → Option Value → Prop
  | some v, some u => RelV v u
  | none, none => True
  | _, _ => False
def KV {κ : Type} : List (κ × V) → List (κ × Value) → Prop := Paired fun (p : κ × V) (q : κ × Value) => p.1 = q.1 ∧ RelV p.2 q.2

/-- a key of a dict (00_mix): an int or a text -/
def kV : Key → V
  | .inl i => .int i
  | .inr x => .str x

/-- what stands at a tracked address -/
inductive HO where
  /-- a list -/
  | lst (xs : List V)
  /-- a tuple (never changes) -/
  | tup (xs : List V)
  /-- a dict whose keys are ints and texts; one whose keys are tuples of ints and texts (the empty one is both) -/
  | dK (kvs : List (Key × V)) | dT (kvs : List (List Key × V))
  /-- a set of ints: its members, its size -/
  | set (S : Int → Bool) (n : Nat)
  /-- an instance of the class at C, its dict at dx, its attributes -/
  | ins (C dx : Addr) (fs : List (Str × V))
  /-- the dict of the instance at x -/
  | own (x : Addr)
  /-- the dict of an exception -/
  | xd (fs : List (Str × V))
  /-- a bound method, f of x -/
  | met (f x : Addr)
  /-- a range object lo, lo + 1, .. below hi -/
  | rng (lo hi : Int)
  /-- a thing that is known to the object (the script; a dict while a loop walks it): read, never written while it is so -/
  | frz (o : Obj) (u : HO)
  /-- a code object's table -/
  | tbl (ps : Array Value)
  /-- any other thing, by what is true of its one object (a def of one's own: SetO a S n := HO.ext fun h => ..) -/
  | ext (φ : Heap → Prop)

abbrev Hp := Addr → Option HO
def upd (H : Hp) (a : Addr) (o : HO) : Hp := fun b => if b = a then some o else H b
theorem upd_same {H : Hp} {a : Addr} {o : HO} : upd H a o a = some o := by unfold upd; rw [if_pos rfl]
theorem upd_ne {H : Hp} {a b : Addr} {o : HO} (h : b ≠ a) : upd H a o b = H b := by unfold upd; rw [if_neg h]
theorem upd_upd {H : Hp} {a : Addr} {o u : HO} : upd (upd H a o) a u = upd H a u := by
  funext b; unfold upd; split <;> rfl
/-- two objects of different content stand apart -/
theorem ne_of {H : Hp} {a b : Addr} {o u : HO} (h : H a = some o) (h' : H b = some u) (d : o ≠ u) : a ≠ b := by
  intro e; subst e; rw [h] at h'; exact d (Option.some.inj h')
theorem ne_of_none {H : Hp} {a b : Addr} {o : HO} (h : H a = some o) (h' : H b = none) : a ≠ b := by
  intro e; subst e; rw [h] at h'; cases h'

section
variable (P : Program) (w : World)
def ObjOk (H : Hp) (h : Heap) (a : Addr) : HO → Prop
  | .lst xs => xs.length ≤ sizeLine ∧ ∃ (its : List Value) (n : Nat), Vals xs its ∧ h.get? a = some { cls := .type "list", data := .seq its.toArray n }
  | .tup xs => xs.length ≤ sizeLine ∧ ∃ its : List Value, Vals xs its ∧ IsTup h a its.toArray
  | .dK kvs => kvs.length ≤ sizeLine ∧ (a == sysModules) = false ∧ ∃ vs, KV kvs vs ∧ h.DictOf (mixKind P w) a vs
  | .dT kvs => kvs.length ≤ sizeLine ∧ (a == sysModules) = false ∧ ∃ xs : List (List Key × Addr × Value),
      Paired (fun (p : List Key × V) (q : List Key × Addr × Value) => p.1 = q.1 ∧ H q.2.1 = some (.tup (p.1.map kV)) ∧ RelV p.2 q.2.2) kvs xs ∧
      ∃ o es ep, h.get? a = some o ∧ o.ExactDict ∧ o.data = .dict es ep ∧ es.toList = xs.map (entryOfKey (tupleKind (mixKind P w))) ∧ (xs.map (·.1)).Nodup
  | .set S n => h.SetOf (intKind P w) a S n
  | .ins C dx fs => H dx = some (.own a) ∧ fs.length ≤ 1000 ∧ dx ≠ a ∧ h.get? a = some (PySem.W.instObj C dx) ∧
      ∃ mA, h.Ns1 dx mA ∧ (∀ f, RelO (fs.lookup f) (mA f)) ∧ PySem.Within mA (fs.map (·.1))
  | .own _ => ∃ o, h.get? a = some o
  | .xd fs => ∃ mA, h.Ns1 a mA ∧ ∀ f, RelO (fs.lookup f) (mA f)
  | .rng lo hi => ∃ t u v, h.get? a = some { cls := .type "range", data := .fields #[.int lo t, .int hi u, .int 1 v] }
  | .frz o u => h.get? a = some o ∧ ObjOk H h a u
  | .tbl ps => h.get? a = some { cls := .none, data := .fields ps }
  | .met f x => h.get? a = some (PySem.W.methodObj (.ref f) (.ref x))
  | .ext φ => φ h ∧ (∃ o, h.get? a = some o) ∧ ∀ h1 h2 : Heap, φ h1 → (∀ o, h1.get? a = some o → h2.get? a = some o) → φ h2
/-- the abstract heap is held -/
def HOk (H : Hp) (h : Heap) : Prop := ∀ a o, H a = some o → ObjOk P w H h a o
end

section
variable {P : Program} {w : World} {H H' : Hp} {h h' : Heap} {a : Addr} {o : HO}
theorem ObjOk.lt (x : ObjOk P w H h a o) : a < h.objs.size := by
  cases o with
  | lst xs => obtain ⟨_, _, _, _, e⟩ := x; exact Heap.lt_size e
  | tup xs => obtain ⟨_, _, _, p⟩ := x; exact p.lt
  | dK kvs => obtain ⟨_, _, _, _, o, _, _, e, _⟩ := x; exact Heap.lt_size e
  | dT kvs => obtain ⟨_, _, _, _, o, _, _, e, _⟩ := x; exact Heap.lt_size e
  | set S n => obtain ⟨o, _, _, _, e, _⟩ := x; exact Heap.lt_size e
  | ins C dx fs => obtain ⟨_, _, _, e, _⟩ := x; exact Heap.lt_size e
  | own y => obtain ⟨_, e⟩ := x; exact Heap.lt_size e
  | xd fs => obtain ⟨_, ⟨_, _, _, e, _⟩, _⟩ := x; exact Heap.lt_size e
  | rng lo hi => obtain ⟨_, _, _, e⟩ := x; exact Heap.lt_size e
  | frz ob u => obtain ⟨e, _⟩ := x; exact Heap.lt_size e
  | tbl ps => exact Heap.lt_size (show h.get? a = some _ from x)
  | met f y => exact Heap.lt_size (show h.get? a = some _ from x)
  | ext φ => obtain ⟨_, ⟨_, e⟩, _⟩ := x; exact Heap.lt_size e
theorem Paired.mapP {α β : Type} {F G : α → β → Prop} : ∀ {l₁ : List α} {l₂ : List β}, Paired F l₁ l₂ → (∀ a b, F a b → G a b) → Paired G l₁ l₂
  | _, _, .nil, _ => .nil
  | _, _, .cons r t, f => .cons (f _ _ r) (Paired.mapP t f)
theorem Paired.imp' {α β : Type} {F G : α → β → Prop} (f : ∀ a b, F a b → G a b) {l₁ : List α} {l₂ : List β} (r : Paired F l₁ l₂) : Paired G l₁ l₂ := Paired.mapP r f
/-- what an object's description leans on: its own object, its own dict, the tuples -/
theorem ObjOk.stay (x : ObjOk P w H h a o) (k : ∀ b u, (b = a ∨ H b = some (.own a)) → h.get? b = some u → h'.get? b = some u)
    (ho : ∀ b, H b = some (.own a) → H' b = some (.own a)) (ht : ∀ b xs, H b = some (.tup xs) → H' b = some (.tup xs)) : ObjOk P w H' h' a o := by
  induction o with
  | lst xs => obtain ⟨z, its, n, r, e⟩ := x; exact ⟨z, its, n, r, k _ _ (.inl rfl) e⟩
  | tup xs => obtain ⟨z, its, r, ob, e, c⟩ := x; exact ⟨z, its, r, ob, k _ _ (.inl rfl) e, c⟩
  | dK kvs => obtain ⟨z, y, vs, r, ob, es, ep, e, c⟩ := x; exact ⟨z, y, vs, r, ob, es, ep, k _ _ (.inl rfl) e, c⟩
  | dT kvs =>
    obtain ⟨z, y, xs, r, ob, es, ep, e, c⟩ := x
    exact ⟨z, y, xs, Paired.mapP r fun p q z => ⟨z.1, ht _ _ z.2.1, z.2.2⟩, ob, es, ep, k _ _ (.inl rfl) e, c⟩
  | set S n => obtain ⟨ob, es, ep, t, e, c⟩ := x; exact ⟨ob, es, ep, t, k _ _ (.inl rfl) e, c⟩
  | ins C dx fs =>
    obtain ⟨d, z, ne, e, mA, ⟨od, es, ep, e2, c⟩, r⟩ := x
    exact ⟨ho _ d, z, ne, k _ _ (.inl rfl) e, mA, ⟨od, es, ep, k _ _ (.inr d) e2, c⟩, r⟩
  | own y => obtain ⟨ob, e⟩ := x; exact ⟨ob, k _ _ (.inl rfl) e⟩
  | xd fs => obtain ⟨mA, ⟨od, es, ep, e, c⟩, r⟩ := x; exact ⟨mA, ⟨od, es, ep, k _ _ (.inl rfl) e, c⟩, r⟩
  | rng lo hi => obtain ⟨t, u, v, e⟩ := x; exact ⟨t, u, v, k _ _ (.inl rfl) e⟩
  | frz ob u ih => obtain ⟨e, q⟩ := x; exact ⟨k _ _ (.inl rfl) e, ih q⟩
  | tbl ps =>
    have e : h.get? a = some { cls := .none, data := .fields ps } := x
    show h'.get? a = some { cls := .none, data := .fields ps }
    exact k a _ (.inl rfl) e
  | met f y =>
    have e : h.get? a = some (PySem.W.methodObj (.ref f) (.ref y)) := x
    show h'.get? a = some (PySem.W.methodObj (.ref f) (.ref y))
    exact k a _ (.inl rfl) e
  | ext φ => obtain ⟨p, ⟨o, e⟩, st⟩ := x; exact ⟨st _ _ p fun o q => k _ _ (.inl rfl) q, ⟨o, k _ _ (.inl rfl) e⟩, st⟩
theorem HOk.lt (x : HOk P w H h) (e : H a = some o) : a < h.objs.size := (x a o e).lt
theorem HOk.fresh (x : HOk P w H h) (e : h.objs.size ≤ a) : H a = none := by
  cases q : H a with
  | none => rfl
  | some u => exact absurd (Nat.lt_of_lt_of_le (x.lt q) e) (Nat.lt_irrefl _)
/-- every object of the heap is kept -/
theorem HOk.kept (x : HOk P w H h) (k : ∀ b u, h.get? b = some u → h'.get? b = some u) : HOk P w H h' := fun a o e =>
  (x a o e).stay (fun b u _ q => k b u q) (fun _ q => q) fun _ _ q => q
/-- a new object is laid and tracked -/
theorem HOk.laid (x : HOk P w H h) (k : ∀ b u, h.get? b = some u → h'.get? b = some u) (hp : h.objs.size ≤ a) (new : ObjOk P w (upd H a o) h' a o) : HOk P w (upd H a o) h' := fun b u e => by
  have hn := x.fresh hp
  by_cases hb : b = a
  · subst hb; rw [upd_same] at e; cases e; exact new
  · rw [upd_ne hb] at e
    exact (x b u e).stay (fun c v _ q => k c v q) (fun c q => by rw [upd_ne (ne_of_none q hn)]; exact q) fun c xs q => by rw [upd_ne (ne_of_none q hn)]; exact q
end

/-- what may be read as u: it is u, or a known u -/
def Rd (H : Hp) (a : Addr) (u : HO) : Prop := H a = some u ∨ ∃ o, H a = some (.frz o u)
theorem Rd.of {H : Hp} {a : Addr} {u : HO} (h : H a = some u) : Rd H a u := .inl h
theorem Rd.ok {P : Program} {w : World} {H : Hp} {h : Heap} {a : Addr} {u : HO} (r : Rd H a u) (x : HOk P w H h) : ObjOk P w H h a u := by
  rcases r with r | ⟨o, r⟩
  · exact x a u r
  · obtain ⟨_, q⟩ := x a _ r
    exact q
/-- what may be written -/
def Mut : Option HO → Prop
  | some (.lst _) => True
  | some (.dK _) => True
  | some (.dT _) => True
  | some (.set _ _) => True
  | some (.ins _ _ _) => True
  | some (.ext _) => True
  | _ => False
section
variable {P : Program} {w : World} {H : Hp} {h h' : Heap} {x e : Addr} {o' : HO}
/-- the object at e is changed: x itself, or the dict of the instance x -/
theorem HOk.write (ok : HOk P w H h) (mu : Mut (H x)) (he : e = x ∨ H e = some (.own x)) (k : ∀ b u, b ≠ e → h.get? b = some u → h'.get? b = some u) (heo : ∃ u, h'.get? e = some u)
    (new : ObjOk P w (upd H x o') h' x o') : HOk P w (upd H x o') h' := fun b u q => by
  have nown : ∀ c y, H c = some (.own y) → c ≠ x := fun c y r z => by subst z; rw [r] at mu; exact mu
  have ntup : ∀ c xs, H c = some (.tup xs) → c ≠ x := fun c xs r z => by subst z; rw [r] at mu; exact mu
  by_cases hb : b = x
  · subst hb; rw [upd_same] at q; cases q; exact new
  · rw [upd_ne hb] at q
    by_cases hbe : b = e
    · have q' : H b = some (.own x) := by
        rcases he with z | z
        · exact absurd (hbe.trans z) hb
        · rw [hbe]; exact z
      rw [q] at q'; cases q'
      obtain ⟨v, hv⟩ := heo
      exact ⟨v, by rw [hbe]; exact hv⟩
    · refine (ok b u q).stay (fun c v hc r => k c v ?_ r) (fun c r => by rw [upd_ne (nown c b r)]; exact r) fun c xs r => by rw [upd_ne (ntup c xs r)]; exact r
      rcases hc with rfl | hc
      · exact hbe
      · rintro rfl
        rcases he with z | z
        · exact nown c b hc z
        · rw [hc] at z; cases z; exact hb rfl
end

/-! ### kept unless tracked; of the frames at fs (the callers') the slots may change (an exception that passes writes there); of the records at ex (iterators) nothing is said -/
structure Un (fs ex : List Addr) (H H' : Hp) (h h' : Heap) : Prop where
  keep : ∀ b o, h.get? b = some o → H b = none → b ∉ fs → b ∉ ex → h'.get? b = some o
  slot : ∀ b o, h.get? b = some o → H b = none → b ∈ fs → b ∉ ex → ∃ sl, h'.get? b = some { o with slots := sl }
  free : ∀ b o, h.get? b = some o → H b = none → b ∉ ex → H' b = none
  there : ∀ b o, h.get? b = some o → b ∉ ex → ∃ o', h'.get? b = some o'
  tups : ∀ b xs, H b = some (.tup xs) → H' b = some (.tup xs)
  frzs : ∀ b o u, H b = some (.frz o u) → H' b = some (.frz o u)
  tbls : ∀ b ps, H b = some (.tbl ps) → ∃ more, H' b = some (.tbl (ps ++ more))
section
variable {fs fs' ex ex' : List Addr} {H H1 H2 : Hp} {h h1 h2 h' : Heap} {a x e : Addr} {o : HO}
theorem Un.any (u : Un fs ex H H1 h h1) {b : Addr} {ob : Obj} (q : h.get? b = some ob) (n : H b = none) (hx : b ∉ ex) : ∃ sl, h1.get? b = some { ob with slots := sl } := by
  by_cases hb : b ∈ fs
  · exact u.slot b ob q n hb hx
  · exact ⟨ob.slots, u.keep b ob q n hb hx⟩
theorem Un.trans (a : Un fs ex H H1 h h1) (b : Un fs ex H1 H2 h1 h2) : Un fs ex H H2 h h2 where
  keep := fun c ob q n hc hx => b.keep c ob (a.keep c ob q n hc hx) (a.free c ob q n hx) hc hx
  slot := fun c ob q n hc hx => by
    obtain ⟨sl, e1⟩ := a.slot c ob q n hc hx
    obtain ⟨sl', e2⟩ := b.slot c _ e1 (a.free c ob q n hx) hc hx
    exact ⟨sl', e2⟩
  free := fun c ob q n hx => by
    obtain ⟨o', e1⟩ := a.there c ob q hx
    exact b.free c o' e1 (a.free c ob q n hx) hx
  there := fun c ob q hx => by
    obtain ⟨o', e1⟩ := a.there c ob q hx
    exact b.there c o' e1 hx
  tups := fun c xs q => b.tups c xs (a.tups c xs q)
  frzs := fun c ob xs q => b.frzs c ob xs (a.frzs c ob xs q)
  tbls := fun c ps q => by
    obtain ⟨m1, e1⟩ := a.tbls c ps q
    obtain ⟨m2, e2⟩ := b.tbls c _ e1
    exact ⟨m1 ++ m2, by rw [e2, Array.append_assoc]⟩
theorem Un.kept (k : ∀ b u, h.get? b = some u → h'.get? b = some u) : Un fs ex H H h h' :=
  ⟨fun b ob q _ _ _ => k b ob q, fun b ob q _ _ _ => ⟨ob.slots, k b ob q⟩, fun _ _ _ n _ => n, fun b ob q _ => ⟨ob, k b ob q⟩, fun _ _ q => q, fun _ _ _ q => q, fun _ ps q => ⟨#[], by rw [q]; simp⟩⟩
theorem Un.refl : Un fs ex H H h h := Un.kept fun _ _ q => q
theorem Un.laid (k : ∀ b u, h.get? b = some u → h'.get? b = some u) (hp : h.objs.size ≤ a) (hn : H a = none) : Un fs ex H (upd H a o) h h' where
  keep := fun b u q _ _ _ => k b u q
  slot := fun b u q _ _ _ => ⟨u.slots, k b u q⟩
  free := fun b u q n _ => by rw [upd_ne (Nat.ne_of_lt (Nat.lt_of_lt_of_le (Heap.lt_size q) hp))]; exact n
  there := fun b u q _ => ⟨u, k b u q⟩
  tups := fun b xs q => by rw [upd_ne (ne_of_none q hn)]; exact q
  frzs := fun b u xs q => by rw [upd_ne (ne_of_none q hn)]; exact q
  tbls := fun b ps q => ⟨#[], by rw [upd_ne (ne_of_none q hn), q]; simp⟩
theorem Un.write (mu : Mut (H x)) (he : e = x ∨ H e = some (.own x)) (k : ∀ b u, b ≠ e → h.get? b = some u → h'.get? b = some u) (heo : ∃ u, h'.get? e = some u) : Un fs ex H (upd H x o) h h' := by
  have hx : ∀ b, H b = none → b ≠ x := fun b n z => by subst z; rw [n] at mu; exact mu
  have hb : ∀ b, H b = none → b ≠ e := fun b n z => by
    subst z
    rcases he with r | r
    · exact hx b n r
    · rw [n] at r; cases r
  have hm : ∀ b u, H b = some u → ¬ Mut (some u) → b ≠ x := fun b u q nm z => by subst z; rw [q] at mu; exact nm mu
  refine ⟨fun b u q n _ _ => k b u (hb b n) q, fun b u q n _ _ => ⟨u.slots, k b u (hb b n) q⟩, fun b u q n _ => by rw [upd_ne (hx b n)]; exact n, fun b u q _ => ?_,
    fun b xs q => by rw [upd_ne (hm b _ q fun z => z)]; exact q, fun b u xs q => by rw [upd_ne (hm b _ q fun z => z)]; exact q, fun b ps q => ⟨#[], by rw [upd_ne (hm b _ q fun z => z), q]; simp⟩⟩
  by_cases hbe : b = e
  · subst hbe; exact heo
  · exact ⟨u, k b u hbe q⟩
theorem Un.mono (u : Un fs ex H H1 h h1) (hs : ∀ b ∈ fs, b ∈ fs') (hx : ∀ b ∈ ex, b ∈ ex') : Un fs' ex' H H1 h h1 :=
  ⟨fun b ob q n hb he => u.keep b ob q n (fun z => hb (hs b z)) fun z => he (hx b z), fun _ _ q n _ he => u.any q n fun z => he (hx _ z), fun b ob q n he => u.free b ob q n fun z => he (hx b z), fun b ob q he => u.there b ob q fun z => he (hx b z), u.tups, u.frzs, u.tbls⟩
end

/-! ### the heap without what is tracked -/
def trk (h : Heap) (H : Hp) : List Addr := (List.range h.objs.size).filter fun a => (H a).isSome
def hidT (h : Heap) (H : Hp) : Heap := PySem.W.hideAll h (trk h H)
theorem hidT_size (h : Heap) (H : Hp) : (hidT h H).objs.size = h.objs.size := PySem.W.hideAll_size _ _
theorem hidT_get {h : Heap} {H : Hp} {b : Addr} {o : Obj} (e : h.get? b = some o) (n : H b = none) : (hidT h H).get? b = some o :=
  PySem.W.hideAll_get _ e fun hm => by
    have q : (H b).isSome = true := (List.mem_filter.mp hm).2
    rw [n] at q; simp at q
theorem of_hidT {h : Heap} {H : Hp} {b : Addr} {o : Obj} (e : (hidT h H).get? b = some o) : h.get? b = some o ∧ H b = none := by
  have e' : h.get? b = some o := PySem.W.of_hideAll (trk h H) e
  refine ⟨e', ?_⟩
  cases q : H b with
  | none => rfl
  | some x =>
    have hm : b ∈ trk h H := List.mem_filter.mpr ⟨List.mem_range.mpr (Heap.lt_size e'), by simp [q]⟩
    have z : (hidT h H).get? b = none := PySem.W.hideAll_none (trk h H) hm
    rw [z] at e; cases e

/-! ### OpenK's ledger, filled with every new object but one -/
def allNews (g h : Heap) (L : Addr) : List (Addr × Obj) := (List.range h.objs.size).filterMap fun a => if a = L ∨ (g.get? a).isSome = true then none else (h.get? a).map fun o => (a, o)
theorem mem_allNews {g h : Heap} {L a : Addr} {o : Obj} (h1 : a ≠ L) (h2 : g.get? a = none) (h3 : h.get? a = some o) : (a, o) ∈ allNews g h L :=
  List.mem_filterMap.mpr ⟨a, List.mem_range.mpr (Heap.lt_size h3), by simp [h1, h2, h3]⟩
theorem of_mem_allNews {g h : Heap} {L : Addr} {p : Addr × Obj} (hp : p ∈ allNews g h L) : p.1 ≠ L ∧ g.get? p.1 = none ∧ h.get? p.1 = some p.2 := by
  obtain ⟨b, _, e⟩ := List.mem_filterMap.mp hp
  split at e
  · cases e
  · rename_i hn
    cases q : h.get? b with
    | none => rw [q] at e; simp at e
    | some u =>
      rw [q] at e
      simp only [Option.map_some, Option.some.injEq] at e
      subst e
      refine ⟨fun z => hn (.inl z), ?_, q⟩
      show g.get? b = none
      cases r : g.get? b with
      | none => rfl
      | some v => exact (hn (.inr (by simp [r]))).elim
def rest (g h : Heap) (L d : Addr) : List (Addr × Obj) := (allNews g h L).filter fun p => decide (p.1 ≠ d)
theorem rest_ne {g h : Heap} {L d : Addr} : ∀ p ∈ rest g h L d, p.1 ≠ d := fun p hp => of_decide_eq_true (List.mem_filter.mp hp).2
theorem mem_rest {g h : Heap} {L d a : Addr} {o : Obj} (h1 : a ≠ L) (h2 : g.get? a = none) (h3 : h.get? a = some o) (h4 : a ≠ d) : (a, o) ∈ rest g h L d :=
  List.mem_filter.mpr ⟨mem_allNews h1 h2 h3, decide_eq_true h4⟩
theorem news_all {g h : Heap} {L : Addr} : News g L h (allNews g h L) := fun p hp => let ⟨a, b, c⟩ := of_mem_allNews hp; ⟨c, a, b⟩
theorem news_at {g h : Heap} {L d : Addr} {o : Obj} (h1 : d ≠ L) (h2 : g.get? d = none) (h3 : h.get? d = some o) : News g L h ((d, o) :: rest g h L d) := fun p hp => by
  rcases List.mem_cons.mp hp with rfl | hp
  · exact ⟨h3, h1, h2⟩
  · exact news_all p (List.mem_filter.mp hp).1
/-- behind a rule that changed d alone: all else but the frame is kept -/
theorem kept_of_news {g h h' : Heap} {L d : Addr} {m : Str → Option Value} (k : ∀ b o, g.get? b = some o → h.get? b = some o) (F : Fr g L h' m) (N : News g L h' (rest g h L d)) :
    ∀ b o, b ≠ L → b ≠ d → h.get? b = some o → h'.get? b = some o := fun b o h1 h2 e => by
  cases q : g.get? b with
  | some u =>
    have := k b u q
    rw [e] at this; cases this
    exact F.keep b _ q
  | none => exact (N (b, o) (mem_rest h1 q e h2)).1
end L2

namespace L2
open PySem PySem.Spec PyProof.Rows

/-- the module's facts, over the base: the heap at the law's entry without what is tracked there -/
structure Mod (K : PySem.W.Frag) (mg : Str → Option Value) (base : Heap) : Prop where
  kin : K.In base
  glob : base.Ns mainGlobals mg
  blt : ∃ mb, base.Ns builtinsNs mb ∧ ∀ x : Str, x ≠ "__name__" → mb x = bootBuiltins x
  nolimit : base.NoLimit

/-- the context: a def's body (or a comprehension's block) running. base: fixed through the whole law; s₀, H₀: the entry; outer: the frames whose slots others may change (a def's callers); stack: all frames that run;
   ex: iterators that were made ahead of the entry and are walked here (a comprehension's); fn: the names whose cells were made at the entry (a def: all; a comprehension's block: its own); calm: not within an except suite; pn: pins that every state bears; xe: what is wanted of an exception that leaves the code -/
structure Cx where
  prog : Program
  w : World
  K : PySem.W.Frag
  mg : Str → Option Value
  base : Heap
  A : Around
  N : List Str
  s₀ : Shared
  H₀ : Hp
  env : Env
  outer : List Env
  stack : List Env
  ex : List Addr
  fn : Str → Bool
  calm : Bool
  pn : List (Addr × Obj)
  xe : Value → Shared → Prop
/-- the callers' frames -/
def frs (l : List Env) : List Addr := l.filterMap (·.frame)
abbrev Cx.fs (X : Cx) : List Addr := frs X.outer

def Vis (sc : Scope) (x : Str) : Prop := sc.names.lookup x = some .local ∨ sc.names.lookup x = some .cell ∨ sc.names.lookup x = some .free
def Loc (sc : Scope) (x : Str) : Prop := sc.names.lookup x = some .local ∨ sc.names.lookup x = some .cell
def Look (env : Env) (h : Heap) (m : Str → Option Value) (x : Str) (u : Value) : Prop :=
  (env.kindOf x = some .local ∧ m x = some u) ∨ ((env.kindOf x = some .cell ∨ env.kindOf x = some .free) ∧ ∃ c, env.cells.lookup x = some c ∧ h.IsCell c (some u))

structure Cx.Ok (X : Cx) : Prop where
  mod : Mod X.K X.mg X.base
  kind : X.env.scope.kind = .function
  glob : X.env.globals = mainGlobals
  blt : X.env.builtins = builtinsNs
  above : X.s₀.heap.objs.size ≤ X.env.locals
  inj : ∀ x y c, X.env.cells.lookup x = some c → X.env.cells.lookup y = some c → x = y
  has : ∀ x, (X.env.kindOf x = some .cell ∨ X.env.kindOf x = some .free) → ∃ c, X.env.cells.lookup x = some c
  cab : ∀ x c, X.fn x = true → X.env.cells.lookup x = some c → X.s₀.heap.objs.size ≤ c
  hd : X.calm = true → X.A.handled = none
  frames : X.A.frames = some X.stack
  stk : X.stack = X.outer ∨ (X.stack = X.env :: X.outer ∧ X.env.frame = some X.env.locals)
  exf : ∀ b ∈ X.ex, b ≠ X.env.locals ∧ ∀ x c, X.env.cells.lookup x = some c → c ≠ b
  bs : ∀ b o, X.base.get? b = some o → X.s₀.heap.get? b = some o ∧ X.H₀ b = none
  bsz : X.base.objs.size ≤ X.s₀.heap.objs.size
  noex : ∀ b o, X.base.get? b = some o → b ∉ X.ex
  exfs : ∀ b ∈ X.ex, b ∉ X.fs
  funs : X.s₀.heap.FunFrames X.base X.outer
  frf : ∀ b ∈ X.fs, X.H₀ b = none

structure Inv (X : Cx) (pins : List (Addr × Obj)) (σ : List (Option V)) (H : Hp) (s : Shared) : Prop where
  ok : X.Ok
  os : s.os = X.s₀.os
  bare : AllBare s.gens
  base : Un X.fs X.ex X.H₀ H X.s₀.heap s.heap
  loc : ∃ m, s.heap.Ns X.env.locals m ∧ ∀ (i : Nat) (x : Str) (v : V), X.N[i]? = some x → σ[i]? = some (some v) → Vis X.env.scope x → ∃ u, RelV v u ∧ Look X.env s.heap m x u
  cell : ∀ x c, X.env.cells.lookup x = some c → ∃ v, s.heap.IsCell c v
  free : H X.env.locals = none
  freeC : ∀ x c, X.env.cells.lookup x = some c → H c = none
  pin : ∀ p ∈ X.pn ++ pins, s.heap.get? p.1 = some p.2 ∧ H p.1 = none ∧ p.1 ≠ X.env.locals ∧ p.1 ∉ X.fs ∧ ∀ v, p.2.data ≠ .cell v
  hok : HOk X.prog X.w H s.heap
  len : σ.length = X.N.length

section
variable {X : Cx} {pins : List (Addr × Obj)} {σ : List (Option V)} {H H' : Hp} {s : Shared} {h' : Heap}

theorem Cx.Ok.nofr (ok : X.Ok) {b : Addr} {o : Obj} (e : X.base.get? b = some o) : b ∉ X.fs := fun hb => by
  have := (ok.funs.mem hb).1
  rw [e] at this; cases this
theorem Inv.bs (I : Inv X pins σ H s) : ∀ b o, X.base.get? b = some o → s.heap.get? b = some o ∧ H b = none := fun b o e =>
  ⟨I.base.keep b o (I.ok.bs b o e).1 (I.ok.bs b o e).2 (I.ok.nofr e) (I.ok.noex b o e), I.base.free b o (I.ok.bs b o e).1 (I.ok.bs b o e).2 (I.ok.noex b o e)⟩
theorem Inv.bk (I : Inv X pins σ H s) : ∀ b o, X.base.get? b = some o → s.heap.get? b = some o := fun b o e => (I.bs b o e).1
theorem Inv.mod (I : Inv X pins σ H s) : Mod X.K X.mg X.base := I.ok.mod
theorem Inv.kIn (I : Inv X pins σ H s) : X.K.In s.heap := I.ok.mod.kin.keeps I.bk
theorem Inv.nolimit (I : Inv X pins σ H s) : s.heap.NoLimit := I.ok.mod.nolimit.keeps I.bk
/-- the frame over the base: for OpenK's rules (K.In X.base is I.mod.kin) -/
theorem Inv.fr (I : Inv X pins σ H s) : ∃ m, Fr X.base X.env.locals s.heap m :=
  let ⟨m, hn, _⟩ := I.loc
  ⟨m, hn, I.bk, Nat.le_trans I.ok.bsz I.ok.above⟩
theorem Inv.lt (I : Inv X pins σ H s) : X.env.locals < s.heap.objs.size := let ⟨_, hn, _⟩ := I.loc; hn.lt
theorem Inv.sz (I : Inv X pins σ H s) : X.s₀.heap.objs.size ≤ s.heap.objs.size := Nat.le_trans I.ok.above (Nat.le_of_lt I.lt)
theorem Inv.nofs (I : Inv X pins σ H s) {a : Addr} (h : s.heap.objs.size ≤ a) : a ∉ X.fs := fun hb => by
  obtain ⟨_, o, ho, _⟩ := I.ok.funs.mem hb
  exact absurd (Nat.lt_of_lt_of_le (Heap.lt_size ho) (Nat.le_trans I.sz h)) (Nat.lt_irrefl _)
theorem Inv.cne (I : Inv X pins σ H s) : ∀ x c, X.env.cells.lookup x = some c → c ≠ X.env.locals := fun x c e z => by
  obtain ⟨v, o, ho, hd⟩ := I.cell x c e
  obtain ⟨m, ⟨o', es, ep, ho', hd', _⟩, _⟩ := I.loc
  rw [z, ho'] at ho; cases ho; rw [hd'] at hd; cases hd
theorem Inv.funs (I : Inv X pins σ H s) : s.heap.FunFrames X.base X.outer := by
  have all : ∀ (l : List Env), (∀ b ∈ frs l, b ∈ X.fs) → X.s₀.heap.FunFrames X.base l → s.heap.FunFrames X.base l := by
    intro l
    induction l with
    | nil => intro _ _; trivial
    | cons env r ih =>
      intro hs hl
      obtain ⟨hk, ⟨L, o, hf, hn, ho, hd⟩, hr⟩ := hl
      have hL : L ∈ X.fs := hs L (by unfold frs; rw [List.filterMap_cons, hf]; exact List.mem_cons_self)
      obtain ⟨sl, e⟩ := I.base.slot L o ho (I.ok.frf L hL) hL fun z => I.ok.exfs L z hL
      exact ⟨hk, ⟨L, _, hf, hn, e, hd⟩, ih (fun b hb => hs b (by unfold frs; rw [List.filterMap_cons, hf]; exact List.mem_cons_of_mem _ hb)) hr⟩
  exact all X.outer (fun _ hb => hb) I.ok.funs

/-- the frames that run, for a call -/
theorem Inv.stack (I : Inv X pins σ H s) : s.heap.FunFrames X.base X.stack := by
  rcases I.ok.stk with e | ⟨e, hf⟩
  · rw [e]; exact I.funs
  · rw [e]
    obtain ⟨m, hn, _⟩ := I.loc
    refine .cons (by rw [I.ok.kind]; decide) hf hn ?_ I.funs
    exact Heap.get?_none_of_le (Nat.le_trans I.ok.bsz I.ok.above)
theorem Inv.stkSub (I : Inv X pins σ H s) : ∀ b ∈ frs X.stack, b ∈ X.env.locals :: X.fs := fun b hb => by
  rcases I.ok.stk with e | ⟨e, hf⟩
  · rw [e] at hb; exact List.mem_cons_of_mem _ hb
  · rw [e] at hb
    unfold frs at hb
    rw [List.filterMap_cons, hf] at hb
    exact hb
theorem Inv.stkFree (I : Inv X pins σ H s) : ∀ b ∈ frs X.stack, H b = none := fun b hb => by
  rcases List.mem_cons.mp (I.stkSub b hb) with e | hb
  · rw [e]; exact I.free
  · obtain ⟨_, o, ho, _⟩ := I.ok.funs.mem hb
    exact I.base.free b o ho (I.ok.frf b hb) fun z => I.ok.exfs b z hb

/-- THE STEP: the untracked objects but the frame and the records at ch are kept (the callers' frames up to slots), the frame's map is kept, the new abstract heap is held -/
theorem Inv.step {g' : Array GenState} {t' : Nat} {d' : Drawn} {ch : List Addr} (I : Inv X pins σ H s)
    (hch : ∀ b ∈ ch, (b ∈ X.ex ∨ X.s₀.heap.objs.size ≤ b) ∧ b ≠ X.env.locals ∧ (∀ x c, X.env.cells.lookup x = some c → c ≠ b) ∧ ∀ p ∈ X.pn ++ pins, p.1 ≠ b)
    (keep : ∀ b o, b ≠ X.env.locals → b ∉ X.fs → b ∉ ch → s.heap.get? b = some o → H b = none → h'.get? b = some o)
    (slot : ∀ b o, b ≠ X.env.locals → b ∈ X.fs → b ∉ ch → s.heap.get? b = some o → H b = none → ∃ sl, h'.get? b = some { o with slots := sl }) (free : ∀ b o, b ∉ ch → s.heap.get? b = some o → H b = none → H' b = none)
    (there : ∀ b o, b ∉ ch → s.heap.get? b = some o → ∃ o', h'.get? b = some o')
    (tups : ∀ b xs, H b = some (.tup xs) → H' b = some (.tup xs)) (frzs : ∀ b o u, H b = some (.frz o u) → H' b = some (.frz o u)) (tbls : ∀ b ps, H b = some (.tbl ps) → ∃ more, H' b = some (.tbl (ps ++ more)))
    (ns : ∀ m, s.heap.Ns X.env.locals m → h'.Ns X.env.locals m) (hok : HOk X.prog X.w H' h') (hg : AllBare g') :
    Inv X pins σ H' { s with heap := h', gens := g', drawn := d', toks := t' } := by
  have neL : ∀ b o, X.s₀.heap.get? b = some o → b ≠ X.env.locals := fun b o e => Nat.ne_of_lt (Nat.lt_of_lt_of_le (Heap.lt_size e) I.ok.above)
  have neC : ∀ b o, X.s₀.heap.get? b = some o → b ∉ X.ex → b ∉ ch := fun b o e hx hb => by
    rcases (hch b hb).1 with z | z
    · exact hx z
    · exact absurd (Nat.lt_of_lt_of_le (Heap.lt_size e) z) (Nat.lt_irrefl _)
  have cellK : ∀ x c, X.env.cells.lookup x = some c → ∀ v, s.heap.IsCell c v → h'.IsCell c v := fun x c e v ⟨o, ho, hd⟩ => by
    have nch : c ∉ ch := fun z => (hch c z).2.2.1 x c e rfl
    by_cases hc : c ∈ X.fs
    · obtain ⟨sl, q⟩ := slot c o (I.cne x c e) hc nch ho (I.freeC x c e)
      exact ⟨_, q, hd⟩
    · exact ⟨o, keep c o (I.cne x c e) hc nch ho (I.freeC x c e), hd⟩
  refine ⟨I.ok, I.os, hg, ⟨fun b o e n hb hx => ?_, fun b o e n hb hx => ?_, fun b o e n hx => ?_, fun b o e hx => ?_, fun b xs e => tups b xs (I.base.tups b xs e), fun b o xs e => frzs b o xs (I.base.frzs b o xs e), fun b ps e => ?_⟩, ?_, fun x c e => ?_, ?_, fun x c e => ?_, fun p hp => ?_, hok, I.len⟩
  · exact keep b o (neL b o e) hb (neC b o e hx) (I.base.keep b o e n hb hx) (I.base.free b o e n hx)
  · obtain ⟨sl, e1⟩ := I.base.slot b o e n hb hx
    obtain ⟨sl', e2⟩ := slot b _ (neL b o e) hb (neC b o e hx) e1 (I.base.free b o e n hx)
    exact ⟨sl', e2⟩
  · obtain ⟨o', e1⟩ := I.base.there b o e hx
    exact free b o' (neC b o e hx) e1 (I.base.free b o e n hx)
  · obtain ⟨o', e1⟩ := I.base.there b o e hx
    exact there b o' (neC b o e hx) e1
  · obtain ⟨m1, e1⟩ := I.base.tbls b ps e
    obtain ⟨m2, e2⟩ := tbls b _ e1
    exact ⟨m1 ++ m2, by rw [e2, Array.append_assoc]⟩
  · obtain ⟨m, hn, hl⟩ := I.loc
    refine ⟨m, ns m hn, fun i x v e1 e2 e3 => ?_⟩
    obtain ⟨u, r, l⟩ := hl i x v e1 e2 e3
    refine ⟨u, r, ?_⟩
    rcases l with l | ⟨k, c, e, z⟩
    · exact .inl l
    · exact .inr ⟨k, c, e, cellK x c e _ z⟩
  · obtain ⟨v, z⟩ := I.cell x c e
    exact ⟨v, cellK x c e v z⟩
  · obtain ⟨m, ⟨o, _, _, ho, _⟩, _⟩ := I.loc
    exact free _ o (fun z => (hch _ z).2.1 rfl) ho I.free
  · obtain ⟨v, o, ho, hd⟩ := I.cell x c e
    exact free c o (fun z => (hch c z).2.2.1 x c e rfl) ho (I.freeC x c e)
  · obtain ⟨e, n, ne, nf, d⟩ := I.pin p hp
    have nch : p.1 ∉ ch := fun z => (hch p.1 z).2.2.2 p hp rfl
    exact ⟨keep p.1 p.2 ne nf nch e n, free p.1 p.2 nch e n, ne, nf, d⟩
/-- .. where the frame's own object is kept too -/
theorem Inv.un {t' : Nat} (I : Inv X pins σ H s) (u : Un X.fs [] H H' s.heap h') (hok : HOk X.prog X.w H' h') : Inv X pins σ H' { s with heap := h', toks := t' } := by
  obtain ⟨m, ⟨o, es, ep, ho, r⟩, _⟩ := id I.loc
  obtain ⟨sl, hL⟩ := u.any ho I.free (by simp)
  exact I.step (g' := s.gens) (d' := s.drawn) (ch := []) (fun _ z => nomatch z) (fun b o _ hb _ e n => u.keep b o e n hb (by simp)) (fun b o _ hb _ e n => u.slot b o e n hb (by simp)) (fun b o _ e n => u.free b o e n (by simp)) (fun b o _ e => u.there b o e (by simp)) u.tups u.frzs u.tbls (fun m' hm => by
    obtain ⟨o', es', ep', ho', r'⟩ := hm
    rw [ho] at ho'; cases ho'
    exact ⟨_, es', ep', hL, r'⟩) hok I.bare
/-- behind a call (or a comprehension's block): the slots of this frame may have changed too, the records at ch may have turned -/
theorem Inv.call {g' : Array GenState} {t' : Nat} {d' : Drawn} {ch : List Addr} (I : Inv X pins σ H s) (u : Un (frs X.stack) ch H H' s.heap h') (hok : HOk X.prog X.w H' h') (hg : AllBare g')
    (hch : ∀ b ∈ ch, (b ∈ X.ex ∨ X.s₀.heap.objs.size ≤ b) ∧ b ≠ X.env.locals ∧ (∀ x c, X.env.cells.lookup x = some c → c ≠ b) ∧ ∀ p ∈ X.pn ++ pins, p.1 ≠ b) :
    Inv X pins σ H' { s with heap := h', gens := g', drawn := d', toks := t' } := by
  obtain ⟨m, ⟨o, es, ep, ho, r⟩, _⟩ := id I.loc
  obtain ⟨sl, hL⟩ := u.any ho I.free fun z => (hch _ z).2.1 rfl
  exact I.step (ch := ch) hch (fun b o hL hb hc e n => u.keep b o e n (fun z => (List.mem_cons.mp (I.stkSub b z)).elim hL hb) hc) (fun b o _ _ hc e n => u.any e n hc) (fun b o hc e n => u.free b o e n hc) (fun b o hc e => u.there b o e hc) u.tups u.frzs u.tbls (fun m' hm => by
    obtain ⟨o', es', ep', ho', r'⟩ := hm
    rw [ho] at ho'; cases ho'
    exact ⟨_, es', ep', hL, r'⟩) hok hg
/-- an untracked record of ours (an iterator) has turned -/
theorem Inv.turned {t' : Nat} {it : Addr} (I : Inv X pins σ H s) (k : ∀ b o, b ≠ it → s.heap.get? b = some o → h'.get? b = some o) (hn : H it = none) (hL : it ≠ X.env.locals)
    (h1 : it ∈ X.ex ∨ X.s₀.heap.objs.size ≤ it) (h2 : ∀ x c, X.env.cells.lookup x = some c → c ≠ it) (h3 : ∀ p ∈ X.pn ++ pins, p.1 ≠ it) : Inv X pins σ H { s with heap := h', toks := t' } := by
  have nit : ∀ b u, H b = some u → b ≠ it := fun b u e z => by rw [z, hn] at e; cases e
  refine I.step (g' := s.gens) (d' := s.drawn) (ch := [it]) (fun b hb => ?_) (fun b o _ _ hc e _ => k b o (fun z => hc (by simp [z])) e) (fun b o _ _ hc e _ => ⟨o.slots, k b o (fun z => hc (by simp [z])) e⟩) (fun _ _ _ _ n => n)
    (fun b o hc e => ⟨o, k b o (fun z => hc (by simp [z])) e⟩) (fun _ _ e => e) (fun _ _ _ e => e) (fun b ps e => ⟨#[], by rw [e]; simp⟩) (fun m hm => ?_) (fun b u e => ?_) I.bare
  · have e : b = it := by simpa using hb
    subst e
    exact ⟨h1, hL, h2, h3⟩
  · obtain ⟨o, es, ep, ho, r⟩ := hm
    exact ⟨o, es, ep, k _ o (Ne.symm hL) ho, r⟩
  · refine (I.hok b u e).stay (fun c v hc q => k c v ?_ q) (fun _ q => q) fun _ _ q => q
    rcases hc with z | z
    · rw [z]; exact nit b u e
    · exact nit c _ z
theorem Inv.tok (I : Inv X pins σ H s) (t : Nat) : Inv X pins σ H { s with toks := t } := I.un (h' := s.heap) (t' := t) Un.refl I.hok
/-- all objects kept -/
theorem Inv.kept {t' : Nat} (I : Inv X pins σ H s) (k : ∀ b u, s.heap.get? b = some u → h'.get? b = some u) : Inv X pins σ H { s with heap := h', toks := t' } := I.un (Un.kept k) (I.hok.kept k)
/-- a new object laid and tracked -/
theorem Inv.laid {a : Addr} {o : HO} {t' : Nat} (I : Inv X pins σ H s) (k : ∀ b u, s.heap.get? b = some u → h'.get? b = some u) (hp : s.heap.objs.size ≤ a) (new : ObjOk X.prog X.w (upd H a o) h' a o) :
    Inv X pins σ (upd H a o) { s with heap := h', toks := t' } := I.un (Un.laid k hp (I.hok.fresh hp)) (I.hok.laid k hp new)
/-- an object written -/
theorem Inv.write {x e : Addr} {o : HO} {t' : Nat} (I : Inv X pins σ H s) (mu : Mut (H x)) (he : e = x ∨ H e = some (.own x)) (k : ∀ b u, b ≠ e → s.heap.get? b = some u → h'.get? b = some u) (heo : ∃ u, h'.get? e = some u)
    (new : ObjOk X.prog X.w (upd H x o) h' x o) : Inv X pins σ (upd H x o) { s with heap := h', toks := t' } := I.un (Un.write mu he k heo) (I.hok.write mu he k heo new)
/-- forgetting slots, pins -/
theorem Inv.weak {σ' : List (Option V)} (I : Inv X pins σ H s) (hl : σ'.length = σ.length) (w : ∀ (i : Nat) v, σ'[i]? = some (some v) → σ[i]? = some (some v)) : Inv X pins σ' H s :=
  ⟨I.ok, I.os, I.bare, I.base, let ⟨m, hn, hl'⟩ := I.loc; ⟨m, hn, fun i x v e1 e2 e3 => hl' i x v e1 (w i v e2) e3⟩, I.cell, I.free, I.freeC, I.pin, I.hok, hl.trans I.len⟩
theorem Inv.pins_of {pins' : List (Addr × Obj)} (I : Inv X pins σ H s) (h : ∀ p ∈ pins', s.heap.get? p.1 = some p.2 ∧ H p.1 = none ∧ p.1 ≠ X.env.locals ∧ p.1 ∉ X.fs ∧ ∀ v, p.2.data ≠ .cell v) : Inv X pins' σ H s :=
  ⟨I.ok, I.os, I.bare, I.base, I.loc, I.cell, I.free, I.freeC, fun p hp => (List.mem_append.mp hp).elim (fun z => I.pin p (List.mem_append_left _ z)) (h p), I.hok, I.len⟩

theorem nodup_ix {N : List Str} (hN : N.Nodup) {i j : Nat} {x : Str} (a : N[i]? = some x) (b : N[j]? = some x) : i = j := by
  obtain ⟨h1, e1⟩ := List.getElem?_eq_some_iff.mp a
  obtain ⟨h2, e2⟩ := List.getElem?_eq_some_iff.mp b
  exact (List.getElem_inj hN).mp (e1.trans e2.symm)

/-- a name is stored; what changed -/
theorem store_ok2 {M : Model} {A : Around} {E : Value → Shared → Prop} {i : Nat} {x : Str} {v : V} {u : Value} {Q : Unit → Shared → Prop} (I : Inv X pins σ H s) (hN : X.N.Nodup) (hi : X.N[i]? = some x) (hx : Loc X.env.scope x) (r : RelV v u)
    (h : ∀ s', Inv X pins (σ.set i (some v)) H s' → (∃ a, Heap.SameBut a s.heap s'.heap ∧ (a = X.env.locals ∨ X.env.cells.lookup x = some a)) → Q () s') (hf : X.fn x = true ∨ X.env.scope.names.lookup x = some .local := by first | exact .inl rfl | exact .inr rfl | assumption) : wpAny M A (storeName X.env x u) Q E s := by
  obtain ⟨m, hn, hl⟩ := id I.loc
  have hcls : (X.env.scope.kind == .class || (X.env.scope.kind == .module && X.env.locals != X.env.globals)) = false := by rw [I.ok.kind]; rfl
  have hiσ : i < σ.length := by rw [I.len]; exact (List.getElem?_eq_some_iff.mp hi).1
  have cne := I.cne
  have tracked : ∀ {a : Addr} {h' : Heap}, (∃ o, s.heap.get? a = some o ∧ H a = none) → Heap.SameBut a s.heap h' → HOk X.prog X.w H h' := fun {a h'} ha hs b ob e => by
    obtain ⟨_, _, hfree⟩ := ha
    refine (I.hok b ob e).stay (fun c w' hc q => (hs.2 c ?_).trans q) (fun _ q => q) fun _ _ q => q
    rintro rfl
    rcases hc with rfl | hc
    · rw [hfree] at e; cases e
    · rw [hfree] at hc; cases hc
  rcases hx with hk | hk
  · refine wpAny_storeName_local hk hn (fun h' hn' hs => ?_) hcls
    obtain ⟨oL, _, _, hoL, _⟩ := id hn
    refine h _ ⟨I.ok, I.os, I.bare, ⟨fun b o e n hb hx => ?_, fun b o e n hb hx => ?_, I.base.free, fun b o e hx => ?_, I.base.tups, I.base.frzs, I.base.tbls⟩, ⟨_, hn', fun j y v' e1 e2 e3 => ?_⟩, fun y c e => ?_, I.free, I.freeC, fun p hp => ?_, tracked ⟨oL, hoL, I.free⟩ hs, by simpa using I.len⟩ ⟨_, hs, .inl rfl⟩
    · exact (hs.2 b (Nat.ne_of_lt (Nat.lt_of_lt_of_le (Heap.lt_size e) I.ok.above))).trans (I.base.keep b o e n hb hx)
    · obtain ⟨sl, e1⟩ := I.base.slot b o e n hb hx
      exact ⟨sl, (hs.2 b (Nat.ne_of_lt (Nat.lt_of_lt_of_le (Heap.lt_size e) I.ok.above))).trans e1⟩
    · obtain ⟨o', e1⟩ := I.base.there b o e hx
      exact ⟨o', (hs.2 b (Nat.ne_of_lt (Nat.lt_of_lt_of_le (Heap.lt_size e) I.ok.above))).trans e1⟩
    · by_cases hj : j = i
      · subst hj
        rw [hi] at e1; cases e1
        rw [List.getElem?_set_self hiσ] at e2
        cases e2
        exact ⟨u, r, .inl ⟨hk, by simp⟩⟩
      · rw [List.getElem?_set_ne (Ne.symm hj)] at e2
        obtain ⟨u', r', q⟩ := hl j y v' e1 e2 e3
        refine ⟨u', r', ?_⟩
        rcases q with ⟨k, e⟩ | ⟨k, c, e, z⟩
        · refine .inl ⟨k, ?_⟩
          have : y ≠ x := fun e => hj (nodup_ix hN e1 (e ▸ hi))
          simp [this, e]
        · exact .inr ⟨k, c, e, z.sameBut hs (cne y c e)⟩
    · obtain ⟨w', z⟩ := I.cell y c e
      exact ⟨w', z.sameBut hs (cne y c e)⟩
    · obtain ⟨e, n, ne, nf, d⟩ := I.pin p hp
      exact ⟨(hs.2 p.1 ne).trans e, n, ne, nf, d⟩
  · have hfn : X.fn x = true := by
      rcases hf with z | z
      · exact z
      · rw [z] at hk; cases hk
    obtain ⟨c, hc⟩ := I.ok.has x (.inl hk)
    obtain ⟨w', z⟩ := I.cell x c hc
    refine wpAny_storeName_cell I.ok.kind hk hc z (fun h' hc' hs => ?_)
    obtain ⟨oc, hoc, hocd⟩ := id z
    refine h { s with heap := h' } ⟨I.ok, I.os, I.bare, ⟨fun b o e n hb hx => ?_, fun b o e n hb hx => ?_, I.base.free, fun b o e hx => ?_, I.base.tups, I.base.frzs, I.base.tbls⟩, ⟨m, hn.sameBut hs (Ne.symm (cne x c hc)), fun j y v' e1 e2 e3 => ?_⟩, fun y c' e => ?_, I.free, I.freeC, fun p hp => ?_, tracked ⟨oc, hoc, I.freeC x c hc⟩ hs, by simpa using I.len⟩ ⟨c, hs, .inr hc⟩
    · exact (hs.2 b (Nat.ne_of_lt (Nat.lt_of_lt_of_le (Heap.lt_size e) (I.ok.cab x c hfn hc)))).trans (I.base.keep b o e n hb hx)
    · obtain ⟨sl, e1⟩ := I.base.slot b o e n hb hx
      exact ⟨sl, (hs.2 b (Nat.ne_of_lt (Nat.lt_of_lt_of_le (Heap.lt_size e) (I.ok.cab x c hfn hc)))).trans e1⟩
    · obtain ⟨o', e1⟩ := I.base.there b o e hx
      exact ⟨o', (hs.2 b (Nat.ne_of_lt (Nat.lt_of_lt_of_le (Heap.lt_size e) (I.ok.cab x c hfn hc)))).trans e1⟩
    · by_cases hj : j = i
      · subst hj
        rw [hi] at e1; cases e1
        rw [List.getElem?_set_self hiσ] at e2
        cases e2
        exact ⟨u, r, .inr ⟨.inl hk, c, hc, hc'⟩⟩
      · rw [List.getElem?_set_ne (Ne.symm hj)] at e2
        obtain ⟨u', r', q⟩ := hl j y v' e1 e2 e3
        refine ⟨u', r', ?_⟩
        rcases q with q | ⟨k, c', e, z'⟩
        · exact .inl q
        · refine .inr ⟨k, c', e, z'.sameBut hs ?_⟩
          rintro rfl
          exact hj (nodup_ix hN e1 (I.ok.inj _ _ _ e hc ▸ hi))
    · by_cases hcc : c' = c
      · subst hcc; exact ⟨_, hc'⟩
      · obtain ⟨w2, z2⟩ := I.cell y c' e
        exact ⟨w2, z2.sameBut hs hcc⟩
    · obtain ⟨e, n, ne, nf, d⟩ := I.pin p hp
      refine ⟨(hs.2 p.1 ?_).trans e, n, ne, nf, d⟩
      intro q
      rw [q, hoc] at e
      have q' : oc = p.2 := Option.some.inj e
      exact d w' (by rw [← q']; exact hocd)
theorem store_ok {M : Model} {A : Around} {E : Value → Shared → Prop} {i : Nat} {x : Str} {v : V} {u : Value} {Q : Unit → Shared → Prop} (I : Inv X pins σ H s) (hN : X.N.Nodup) (hi : X.N[i]? = some x) (hx : Loc X.env.scope x) (r : RelV v u)
    (h : ∀ s', Inv X pins (σ.set i (some v)) H s' → Q () s') (hf : X.fn x = true ∨ X.env.scope.names.lookup x = some .local := by first | exact .inl rfl | exact .inr rfl | assumption) : wpAny M A (storeName X.env x u) Q E s :=
  store_ok2 I hN hi hx r (fun s' I' _ => h s' I') hf
/-- behind a call or a block, the state as it is -/
theorem Inv.call' {s' : Shared} {ch : List Addr} (I : Inv X pins σ H s) (ho : s'.os = s.os) (u : Un (frs X.stack) ch H H' s.heap s'.heap) (hok : HOk X.prog X.w H' s'.heap) (hg : AllBare s'.gens)
    (hch : ∀ b ∈ ch, (b ∈ X.ex ∨ X.s₀.heap.objs.size ≤ b) ∧ b ≠ X.env.locals ∧ (∀ x c, X.env.cells.lookup x = some c → c ≠ b) ∧ ∀ p ∈ X.pn ++ pins, p.1 ≠ b) : Inv X pins σ H' s' := by
  obtain ⟨h', g', d', t', o'⟩ := s'
  have e : o' = s.os := ho
  subst e
  exact I.call (g' := g') (t' := t') (d' := d') u hok hg hch
end

/-! ### the judgements -/
/-- an exception: its class, its own dict's address (where it has one), the abstract heap behind it -/
abbrev XK := Value → Option Addr → Hp → Prop
abbrev St := List (Option V)
abbrev VK := V → Hp → Prop
/-- an expression's reading; a test's; an argument list's -/
abbrev TE := St → Hp → VK → Prop
abbrev TT := St → Hp → (Bool → Hp → Prop) → Prop
abbrev TA := St → Hp → (List V → Hp → Prop) → Prop
/-- what is wanted behind a statement -/
structure Ends where
  nx : St → Hp → Prop
  rt : VK
  bk : St → Hp → Prop := fun _ _ => False
  ct : St → Hp → Prop := fun _ _ => False
abbrev TS := Ends → St → Hp → Prop

def EP (X : Cx) (pins : List (Addr × Obj)) (σ : St) (Q : VK) (u : Value) (s' : Shared) : Prop := ∃ v H', Inv X pins σ H' s' ∧ RelV v u ∧ Q v H'
def TP (X : Cx) (pins : List (Addr × Obj)) (σ : St) (Q : Bool → Hp → Prop) (b : Bool) (s' : Shared) : Prop := ∃ H', Inv X pins σ H' s' ∧ Q b H'
def AP (X : Cx) (pins : List (Addr × Obj)) (σ : St) (Q : List V → Hp → Prop) (us : List Value) (s' : Shared) : Prop := ∃ vs H', Inv X pins σ H' s' ∧ Vals vs us ∧ Q vs H'
def SP (X : Cx) (pins : List (Addr × Obj)) (D : Ends) (f : Flow) (s' : Shared) : Prop :=
  match f with
  | .next => ∃ σ' H', Inv X pins σ' H' s' ∧ D.nx σ' H'
  | .brk => ∃ σ' H', Inv X pins σ' H' s' ∧ D.bk σ' H'
  | .cont => ∃ σ' H', Inv X pins σ' H' s' ∧ D.ct σ' H'
  | .ret u => ∃ v σ' H', Inv X pins σ' H' s' ∧ RelV v u ∧ D.rt v H'

def PE (X : Cx) (e : Expr) (t : TE) : Prop :=
  ∀ (pins : List (Addr × Obj)) (s : Shared) (σ : St) (H : Hp) (Q : VK), Inv X pins σ H s → t σ H Q → wpAny (model X.prog X.w) X.A (eval e X.env) (EP X pins σ Q) X.xe s
def PT (X : Cx) (e : Expr) (t : TT) : Prop :=
  ∀ (pins : List (Addr × Obj)) (s : Shared) (σ : St) (H : Hp) (Q : Bool → Hp → Prop), Inv X pins σ H s → t σ H Q → wpAny (model X.prog X.w) X.A (isTrue e X.env (eval e X.env)) (TP X pins σ Q) X.xe s
/-- a test whatever its 'whole' is (and, or) -/
def PW (X : Cx) (e : Expr) (t : TT) : Prop :=
  ∀ (whole : Sem Value) (pins : List (Addr × Obj)) (s : Shared) (σ : St) (H : Hp) (Q : Bool → Hp → Prop), Inv X pins σ H s → t σ H Q → wpAny (model X.prog X.w) X.A (isTrue e X.env whole) (TP X pins σ Q) X.xe s
theorem PW.pt {X : Cx} {e : Expr} {t : TT} (h : PW X e t) : PT X e t := h _
/-- an argument list (no star), from the left -/
def PA (X : Cx) (es : List Expr) (t : TA) : Prop :=
  ∀ (pos : Pos) (pins : List (Addr × Obj)) (s : Shared) (σ : St) (H : Hp) (Q : List V → Hp → Prop), Inv X pins σ H s → t σ H Q → wpAny (model X.prog X.w) X.A (spliced (backTo pos (starEach es X.env))) (AP X pins σ Q) X.xe s
def PS (X : Cx) (st : Stmt) (t : TS) : Prop :=
  ∀ (pins : List (Addr × Obj)) (s : Shared) (σ : St) (H : Hp) (D : Ends), Inv X pins σ H s → t D σ H → wpAny (model X.prog X.w) X.A (exec st X.env) (SP X pins D) X.xe s
def PSs (X : Cx) (st : List Stmt) (t : TS) : Prop :=
  ∀ (pins : List (Addr × Obj)) (s : Shared) (σ : St) (H : Hp) (D : Ends), Inv X pins σ H s → t D σ H → wpAny (model X.prog X.w) X.A (execs st X.env) (SP X pins D) X.xe s
/-- weaken the end -/
theorem thn {α : Type} {t : Sem α} {Q Q' : α → Shared → Prop} {M : Model} {A : Around} {E : Value → Shared → Prop} {s : Shared} (h : wpAny M A t Q E s) (hQ : ∀ a s, Q a s → Q' a s) : wpAny M A t Q' E s := wpAny_mono h hQ fun _ _ x => x
end L2

namespace L2
open PySem PySem.Spec PyProof.Rows
section
variable {X : Cx}

/-- two expressions in a row -/
theorem bin {a b : Expr} {ta tb : TE} (ha : PE X a ta) (hb : PE X b tb) {pins : List (Addr × Obj)} {s : Shared} {σ : St} {H : Hp} {R : V → V → Hp → Prop} (I : Inv X pins σ H s) (h : ta σ H fun x H1 => tb σ H1 fun y H2 => R x y H2)
    {α : Type} {Q : α → Shared → Prop} {f : Value → Value → Sem α}
    (hf : ∀ v u s2 x y H2, Inv X pins σ H2 s2 → RelV x v → RelV y u → R x y H2 → wpAny (model X.prog X.w) X.A (f v u) Q X.xe s2) :
    wpAny (model X.prog X.w) X.A (eval a X.env) (fun v s₁ => wpAny (model X.prog X.w) X.A (eval b X.env) (fun u s₂ => wpAny (model X.prog X.w) X.A (f v u) Q X.xe s₂) X.xe s₁) X.xe s := by
  refine thn (ha pins s σ H _ I h) fun v s1 ⟨x, H1, I1, r1, q1⟩ => ?_
  refine thn (hb pins s1 σ H1 _ I1 q1) fun u s2 ⟨y, H2, I2, r2, q2⟩ => ?_
  exact hf v u s2 x y H2 I2 r1 r2 q2

/-! ### names and constants -/
def tVar (i : Nat) : TE := fun σ H Q => ∃ v, σ[i]? = some (some v) ∧ Q v H
def tC (v : V) : TE := fun _ H Q => Q v H
theorem pe_var {i : Nat} {x : Str} {pos : Pos} (hN : X.N[i]? = some x) (hv : Vis X.env.scope x) (hd : (x == ("__debug__" : Str)) = false := by decide) (hcd : (x == ("__classdict__" : Str)) = false := by decide) : PE X (.Name x pos) (tVar i) := by
  intro pins s σ H Q I h
  obtain ⟨v, e, h⟩ := h
  obtain ⟨m, hn, hl⟩ := I.loc
  obtain ⟨u, r, l⟩ := hl i x v hN e hv
  have fin : EP X pins σ Q u s := ⟨v, H, I, r, h⟩
  rcases l with ⟨hk, hm⟩ | ⟨hk, c, hc, hcell⟩
  · exact wpAny_Name (wpAny_loadName_local I.ok.kind hk hn hm fin) hd
  · rcases hk with hk | hk
    · exact wpAny_Name (wpAny_loadName_cell I.ok.kind hk hc hcell fin) hd
    · exact wpAny_Name (wpAny_loadName_free I.ok.kind hk hc hcell fin hcd) hd
theorem pe_int {i j pos} : PE X (.Constant (.int i) j pos) (tC (.int i)) := fun _ _ _ H _ I h => wpAny_Constant_int ⟨.int i, H, I.tok _, ⟨_, rfl⟩, h⟩
theorem pe_bl {b j pos} : PE X (.Constant (.bool b) j pos) (tC (.bl b)) := fun _ _ _ H _ I h => Constant_bool ⟨.bl b, H, I, rfl, h⟩
theorem pe_non {j pos} : PE X (.Constant .none j pos) (tC .non) := fun _ _ _ H _ I h => Constant_none ⟨.non, H, I, rfl, h⟩
theorem pe_str {x j pos} : PE X (.Constant (.str x) j pos) (tC (.str x)) := fun _ _ _ H _ I h => Calls.Constant_str ⟨.str x, H, I.tok _, ⟨_, rfl⟩, h⟩

/-- a global name of the def -/
def Gl (X : Cx) (x : Str) : Prop := X.env.kindOf x = some .globalImplicit
theorem ld_glob {E : Value → Shared → Prop} {pins : List (Addr × Obj)} {s : Shared} {σ : St} {H : Hp} {x : Str} {u : Value} {pos : Pos} {Q : Value → Shared → Prop} (I : Inv X pins σ H s) (hg : Gl X x) (hm : X.mg x = some u) (h : Q u s)
    (hd : (x == ("__debug__" : Str)) = false := by decide) : wpAny (model X.prog X.w) X.A (eval (.Name x pos) X.env) Q E s :=
  Calls.Name_function_global I.ok.kind hg (Calls.loadGlobal_global (by rw [I.ok.glob]; exact I.mod.glob.keeps I.bk) hm h) hd
theorem ld_blt {E : Value → Shared → Prop} {pins : List (Addr × Obj)} {s : Shared} {σ : St} {H : Hp} {x : Str} {u : Value} {pos : Pos} {Q : Value → Shared → Prop} (I : Inv X pins σ H s) (hg : Gl X x) (hm : X.mg x = none) (hv : bootBuiltins x = some u) (h : Q u s)
    (hn : x ≠ "__name__" := by decide) (hd : (x == ("__debug__" : Str)) = false := by decide) : wpAny (model X.prog X.w) X.A (eval (.Name x pos) X.env) Q E s := by
  obtain ⟨mb, h1, h2⟩ := I.mod.blt
  exact Calls.Name_function_global I.ok.kind hg (Calls.loadGlobal_builtin (by rw [I.ok.glob]; exact I.mod.glob.keeps I.bk) hm (by rw [I.ok.blt]; exact h1.keeps I.bk) ((h2 x hn).trans hv) h) hd
/-- a module's constant, a class, a function, as a value -/
theorem pe_glob {x : Str} {v : V} {u : Value} {pos : Pos} (hg : Gl X x) (hm : X.mg x = some u) (r : RelV v u) (hd : (x == ("__debug__" : Str)) = false := by decide) : PE X (.Name x pos) (tC v) :=
  fun _ _ _ H _ I h => ld_glob I hg hm ⟨v, H, I, r, h⟩ hd
theorem pe_bltn {x : Str} {v : V} {u : Value} {pos : Pos} (hg : Gl X x) (hm : X.mg x = none) (hv : bootBuiltins x = some u) (r : RelV v u) (hn : x ≠ "__name__" := by decide) (hd : (x == ("__debug__" : Str)) = false := by decide) : PE X (.Name x pos) (tC v) :=
  fun _ _ _ H _ I h => ld_blt I hg hm hv ⟨v, H, I, r, h⟩ hn hd

/-! ### arithmetic -/
/-- two ints -/
def t2I (ta tb : TE) (k : Int → Int → Hp → Prop) : St → Hp → Prop := fun σ H => ta σ H fun x H1 => tb σ H1 fun y H2 => ∃ i j, x = .int i ∧ y = .int j ∧ k i j H2
def tAdd (ta tb : TE) : TE := fun σ H Q => t2I ta tb (fun i j H2 => Q (.int (i + j)) H2) σ H
def tSub (ta tb : TE) : TE := fun σ H Q => t2I ta tb (fun i j H2 => Q (.int (i - j)) H2) σ H
/-- the left factor below 2^64 -/
def tMul (ta tb : TE) : TE := fun σ H Q => t2I ta tb (fun i j H2 => (-(2 ^ 64) < i ∧ i < 2 ^ 64) ∧ Q (.int (i * j)) H2) σ H
variable {a b : Expr} {ta tb : TE} {pos : Pos}
theorem pe_add (ha : PE X a ta) (hb : PE X b tb) : PE X (.BinOp a .Add b pos) (tAdd ta tb) := by
  intro pins s σ H Q I h
  refine wpAny_BinOp (bin ha hb I h fun v u s2 x y H2 I2 rx ry q => ?_)
  obtain ⟨i, j, rfl, rfl, q⟩ := q
  obtain ⟨t, rfl⟩ := rx
  obtain ⟨t', rfl⟩ := ry
  exact add_int ⟨.int _, H2, I2.tok _, ⟨_, rfl⟩, q⟩
theorem pe_sub (ha : PE X a ta) (hb : PE X b tb) : PE X (.BinOp a .Sub b pos) (tSub ta tb) := by
  intro pins s σ H Q I h
  refine wpAny_BinOp (bin ha hb I h fun v u s2 x y H2 I2 rx ry q => ?_)
  obtain ⟨i, j, rfl, rfl, q⟩ := q
  obtain ⟨t, rfl⟩ := rx
  obtain ⟨t', rfl⟩ := ry
  exact sub_int ⟨.int _, H2, I2.tok _, ⟨_, rfl⟩, q⟩
theorem pe_mul (ha : PE X a ta) (hb : PE X b tb) : PE X (.BinOp a .Mult b pos) (tMul ta tb) := by
  intro pins s σ H Q I h
  refine wpAny_BinOp (bin ha hb I h fun v u s2 x y H2 I2 rx ry q => ?_)
  obtain ⟨i, j, rfl, rfl, ⟨q1, q2⟩, q⟩ := q
  obtain ⟨t, rfl⟩ := rx
  obtain ⟨t', rfl⟩ := ry
  exact mul_int ⟨.int _, H2, I2.tok _, ⟨_, rfl⟩, q⟩ (.of_left (intBits_le_64 q1 q2))

/-! ### comparisons -/
def PC (X : Cx) (op : CmpOp) (a b : Expr) (t : TE) : Prop :=
  ∀ (pins : List (Addr × Obj)) (s : Shared) (σ : St) (H : Hp) (Q : VK), Inv X pins σ H s → t σ H Q →
    wpAny (model X.prog X.w) X.A (eval a X.env) (fun v s₁ => wpAny (model X.prog X.w) X.A (eval b X.env) (fun u s₂ => wpAny (model X.prog X.w) X.A (compareOp op v u) (EP X pins σ Q) X.xe s₂) X.xe s₁) X.xe s
theorem nobehind (b : Expr) {op : CmpOp} (h : op ≠ .In) (h2 : op ≠ .NotIn) : behindInMarks op b = false := by
  have e1 : (op == CmpOp.In) = false := by cases op <;> first | rfl | exact absurd rfl h
  have e2 : (op == CmpOp.NotIn) = false := by cases op <;> first | rfl | exact absurd rfl h2
  cases b <;> simp [behindInMarks, e1, e2]
def tCmp (p : Int → Int → Bool) (ta tb : TE) : TE := fun σ H Q => t2I ta tb (fun i j H2 => Q (.bl (p i j)) H2) σ H
abbrev tLt : TE → TE → TE := tCmp fun i j => decide (i < j)
abbrev tLe : TE → TE → TE := tCmp fun i j => decide (i ≤ j)
abbrev tGt : TE → TE → TE := tCmp fun i j => decide (j < i)
abbrev tGe : TE → TE → TE := tCmp fun i j => decide (j ≤ i)
abbrev tEqI : TE → TE → TE := tCmp fun i j => decide (i = j)
abbrev tNeI : TE → TE → TE := tCmp fun i j => !decide (i = j)
/-- a comparison of two ints, by its rule -/
theorem pc_int {op : CmpOp} {p : Int → Int → Bool} (ha : PE X a ta) (hb : PE X b tb)
    (rule : ∀ (i j : Int) (t u : Tok) (Q : Value → Shared → Prop) (s : Shared), Q (.bool (p i j)) s → wpAny (model X.prog X.w) X.A (compareOp op (.int i t) (.int j u)) Q X.xe s) : PC X op a b (tCmp p ta tb) := by
  intro pins s σ H Q I h
  refine bin ha hb I h fun v u s2 x y H2 I2 rx ry q => ?_
  obtain ⟨i, j, rfl, rfl, q⟩ := q
  obtain ⟨t, rfl⟩ := rx
  obtain ⟨t', rfl⟩ := ry
  exact rule i j t t' _ s2 ⟨.bl _, H2, I2, rfl, q⟩
theorem pc_lt (ha : PE X a ta) (hb : PE X b tb) : PC X .Lt a b (tLt ta tb) := pc_int ha hb fun _ _ _ _ _ _ h => lt_int h
theorem pc_le (ha : PE X a ta) (hb : PE X b tb) : PC X .LtE a b (tLe ta tb) := pc_int ha hb fun _ _ _ _ _ _ h => le_int h
theorem pc_gt (ha : PE X a ta) (hb : PE X b tb) : PC X .Gt a b (tGt ta tb) := pc_int ha hb fun _ _ _ _ _ _ h => gt_int h
theorem pc_ge (ha : PE X a ta) (hb : PE X b tb) : PC X .GtE a b (tGe ta tb) := pc_int ha hb fun _ _ _ _ _ _ h => ge_int h
theorem pc_eqI (ha : PE X a ta) (hb : PE X b tb) : PC X .Eq a b (tEqI ta tb) := pc_int ha hb fun _ _ _ _ _ _ h => eq_int (by rw [Bool.beq_eq_decide_eq]; exact h)
theorem pc_neI (ha : PE X a ta) (hb : PE X b tb) : PC X .NotEq a b (tNeI ta tb) := pc_int ha hb fun _ _ _ _ _ _ h => ne_int (by rw [bne, Bool.beq_eq_decide_eq]; exact h)
/-- is None -/
def tIsN (ta : TE) : TE := fun σ H Q => ta σ H fun x H1 => Q (.bl (decide (x = .non))) H1
def tNotN (ta : TE) : TE := fun σ H Q => ta σ H fun x H1 => Q (.bl (!decide (x = .non))) H1
theorem RelV.none_iff {x : V} {v : Value} (r : RelV x v) : (v == Value.none) = decide (x = .non) := by
  cases x with
  | non => cases r; rfl
  | bl _ => cases r; rfl
  | int _ => obtain ⟨t, rfl⟩ := r; rfl
  | str _ => obtain ⟨t, rfl⟩ := r; rfl
  | byt _ => obtain ⟨t, rfl⟩ := r; rfl
  | flt _ => obtain ⟨t, rfl⟩ := r; rfl
  | ref _ => cases r; rfl
  | ty _ => cases r; rfl
theorem pc_isN {j pos'} (ha : PE X a ta) : PC X .Is a (.Constant .none j pos') (tIsN ta) := by
  intro pins s σ H Q I h
  refine thn (ha pins s σ H _ I h) fun v s1 ⟨x, H1, I1, r1, q1⟩ => ?_
  exact Constant_none (is_none_gen ⟨.bl _, H1, I1, by rw [r1.none_iff]; rfl, q1⟩)
theorem pc_notN {j pos'} (ha : PE X a ta) : PC X .IsNot a (.Constant .none j pos') (tNotN ta) := by
  intro pins s σ H Q I h
  refine thn (ha pins s σ H _ I h) fun v s1 ⟨x, H1, I1, r1, q1⟩ => ?_
  exact Constant_none (isnot_none_gen ⟨.bl _, H1, I1, by rw [r1.none_iff]; rfl, q1⟩)
/-- a comparison as a value, as a test -/
def tB (t : TE) : TT := fun σ H Q => t σ H fun x H1 => ∃ c, x = .bl c ∧ Q c H1
theorem pe_cmp {op : CmpOp} {t : TE} (h : PC X op a b t) (h1 : behindInMarks op b = false := by first | exact nobehind _ (by decide) (by decide) | rfl) : PE X (.Compare a [op] [b] pos) t := fun pins s σ H Q I hw => wpAny_Compare1 (h pins s σ H Q I hw) h1
theorem pt_cmp {op : CmpOp} {t : TE} (h : PC X op a b t) (h1 : behindInMarks op b = false := by first | exact nobehind _ (by decide) (by decide) | rfl) : PT X (.Compare a [op] [b] pos) (tB t) := by
  intro pins s σ H Q I hw
  refine wpAny_isTrue_Compare1 (thn (h pins s σ H _ I hw) fun v s1 h1 => thn h1 fun u s2 h2 => thn h2 fun c s3 ⟨x, H1, I1, r1, q1⟩ => ?_) h1
  obtain ⟨d, rfl, q⟩ := q1
  cases r1
  exact wpAny_truthy_bool ⟨H1, I1, q⟩
/-- an expression whose value is a bool, as a test -/
theorem pt_val {e : Expr} {t : TE} (h : PE X e t) (he : ∀ whole, isTrue e X.env whole = (do let v ← whole; standAt e.pos; holding [v] (truthy v)) := by intro _; rfl) : PT X e (tB t) := by
  intro pins s σ H Q I hw
  refine isTrue_plain (thn (h pins s σ H _ I hw) fun v s1 ⟨x, H1, I1, r1, q1⟩ => ?_) (he _)
  obtain ⟨d, rfl, q⟩ := q1
  cases r1
  exact wpAny_truthy_bool ⟨H1, I1, q⟩

/-! ### and, or, not -/
variable {tA tB' : TT} {rest : List Expr}
def tAnd (t u : TT) : TT := fun σ H Q => t σ H fun c H1 => if c = true then u σ H1 Q else Q false H1
def tOr (t u : TT) : TT := fun σ H Q => t σ H fun c H1 => if c = true then Q true H1 else u σ H1 Q
def tNot (t : TT) : TT := fun σ H Q => t σ H fun c H1 => Q (!c) H1
theorem pw_and1 (ha : PT X a tA) : PW X (.BoolOp .And [a] pos) tA := by
  intro wh pins s σ H Q I h
  refine isTrue_and (thn (ha pins s σ H Q I h) fun c s1 e => ?_)
  cases c with
  | true => exact isTrue_and_nil e
  | false => exact e
theorem pw_or1 (ha : PT X a tA) : PW X (.BoolOp .Or [a] pos) tA := by
  intro wh pins s σ H Q I h
  refine isTrue_or (thn (ha pins s σ H Q I h) fun c s1 e => ?_)
  cases c with
  | false => exact isTrue_or_nil e
  | true => exact e
theorem pw_and (ha : PT X a tA) (hb : PW X (.BoolOp .And (b :: rest) pos) tB') : PW X (.BoolOp .And (a :: b :: rest) pos) (tAnd tA tB') := by
  intro wh pins s σ H Q I h
  refine isTrue_and (thn (ha pins s σ H _ I h) fun c s1 ⟨H1, I1, q1⟩ => ?_)
  cases c with
  | true => exact hb wh pins s1 σ H1 Q I1 q1
  | false => exact ⟨H1, I1, q1⟩
theorem pw_or (ha : PT X a tA) (hb : PW X (.BoolOp .Or (b :: rest) pos) tB') : PW X (.BoolOp .Or (a :: b :: rest) pos) (tOr tA tB') := by
  intro wh pins s σ H Q I h
  refine isTrue_or (thn (ha pins s σ H _ I h) fun c s1 ⟨H1, I1, q1⟩ => ?_)
  cases c with
  | true => exact ⟨H1, I1, q1⟩
  | false => exact hb wh pins s1 σ H1 Q I1 q1
theorem pt_not (ha : PT X a tA) : PT X (.UnaryOp .Not a pos) (tNot tA) := by
  intro pins s σ H Q I h
  exact isTrue_not (ha pins s σ H (fun c H1 => Q (!c) H1) I h)
/-- .. as values (bools) -/
def tAndV (ta tb : TE) : TE := fun σ H Q => ta σ H fun x H1 => ∃ c, x = .bl c ∧ if c = true then tb σ H1 Q else Q (.bl false) H1
def tOrV (ta tb : TE) : TE := fun σ H Q => ta σ H fun x H1 => ∃ c, x = .bl c ∧ if c = true then Q (.bl true) H1 else tb σ H1 Q
def tNotV (ta : TE) : TE := fun σ H Q => ta σ H fun x H1 => ∃ c, x = .bl c ∧ Q (.bl (!c)) H1
theorem pe_one {op} {t : TE} (h : PE X a t) : PE X (.BoolOp op [a] pos) t := fun pins s σ H Q I hw => BoolOp_one (h pins s σ H Q I hw)
theorem pe_and (ha : PE X a ta) (hb : PE X (.BoolOp .And (b :: rest) pos) tb) : PE X (.BoolOp .And (a :: b :: rest) pos) (tAndV ta tb) := by
  intro pins s σ H Q I h
  refine BoolOp_and (thn (ha pins s σ H _ I h) fun v s1 ⟨x, H1, I1, r1, q1⟩ => ?_)
  obtain ⟨c, rfl, q1⟩ := q1
  cases r1
  refine wpAny_truthy_bool ?_
  cases c with
  | true => exact hb pins s1 σ H1 Q I1 q1
  | false => exact ⟨.bl false, H1, I1, rfl, q1⟩
theorem pe_or (ha : PE X a ta) (hb : PE X (.BoolOp .Or (b :: rest) pos) tb) : PE X (.BoolOp .Or (a :: b :: rest) pos) (tOrV ta tb) := by
  intro pins s σ H Q I h
  refine BoolOp_or (thn (ha pins s σ H _ I h) fun v s1 ⟨x, H1, I1, r1, q1⟩ => ?_)
  obtain ⟨c, rfl, q1⟩ := q1
  cases r1
  refine wpAny_truthy_bool ?_
  cases c with
  | false => exact hb pins s1 σ H1 Q I1 q1
  | true => exact ⟨.bl true, H1, I1, rfl, q1⟩
theorem pe_not (ha : PE X a ta) : PE X (.UnaryOp .Not a pos) (tNotV ta) := by
  intro pins s σ H Q I h
  refine UnaryOp_ (thn (ha pins s σ H _ I h) fun v s1 ⟨x, H1, I1, r1, q1⟩ => ?_)
  obtain ⟨c, rfl, q1⟩ := q1
  cases r1
  exact not_of (wpAny_truthy_bool ⟨.bl (!c), H1, I1, rfl, q1⟩)
/-- a if t else b -/
def tIf (t : TT) (ta tb : TE) : TE := fun σ H Q => t σ H fun c H1 => if c = true then ta σ H1 Q else tb σ H1 Q
theorem pe_ifExp {c : Expr} (hc : PT X c tA) (ha : PE X a ta) (hb : PE X b tb) : PE X (.IfExp c a b pos) (tIf tA ta tb) := by
  intro pins s σ H Q I h
  refine wpAny_IfExp (thn (hc pins s σ H _ I h) fun d s1 ⟨H1, I1, q1⟩ => ?_)
  cases d with
  | true => exact ha pins s1 σ H1 Q I1 q1
  | false => exact hb pins s1 σ H1 Q I1 q1
end
end L2

namespace L2
open PySem PySem.Spec PyProof.Rows

/-! ### a list, a tuple that is read: tracked, frozen, or an object of the module -/
def SqL (K : PySem.W.Frag) (H : Hp) (a : Addr) (xs : List V) : Prop :=
  Rd H a (.lst xs) ∨
    ∃ (o : Obj) (its : Array Value) (n : Nat), K.lookup a = some o ∧ o.cls = .type "list" ∧ o.dict = none ∧ o.data = .seq its n ∧ its.size ≤ sizeLine ∧ Vals xs its.toList
def SqT (K : PySem.W.Frag) (H : Hp) (a : Addr) (xs : List V) : Prop :=
  Rd H a (.tup xs) ∨
    ∃ (o : Obj) (its : Array Value) (n : Nat), K.lookup a = some o ∧ o.cls = .type "tuple" ∧ o.data = .seq its n ∧ its.size ≤ sizeLine ∧ Vals xs its.toList
def absV : Value → Option V
  | .none => some .non
  | .bool b => some (.bl b)
  | .int i _ => some (.int i)
  | .str x _ => some (.str x)
  | .bytes b _ => some (.byt b)
  | .float b _ => some (.flt b)
  | .ref a => some (.ref a)
  | .type n => some (.ty n)
  | _ => none
theorem RelV.abs {x : V} {u : Value} (r : RelV x u) : absV u = some x := by
  cases x with
  | non => cases r; rfl
  | bl _ => cases r; rfl
  | int _ => obtain ⟨t, rfl⟩ := r; rfl
  | str _ => obtain ⟨t, rfl⟩ := r; rfl
  | byt _ => obtain ⟨t, rfl⟩ := r; rfl
  | flt _ => obtain ⟨t, rfl⟩ := r; rfl
  | ref _ => cases r; rfl
  | ty _ => cases r; rfl
theorem RelV.inj {x y : V} {u : Value} (r : RelV x u) (q : RelV y u) : x = y := Option.some.inj (r.abs.symm.trans q.abs)
theorem Vals.inj : ∀ {xs ys : List V} {us : List Value}, Vals xs us → Vals ys us → xs = ys
  | _, _, _, .nil, .nil => rfl
  | _, _, _, .cons r t, .cons r' t' => by rw [r.inj r', Vals.inj t t']
section
variable {X : Cx} {pins : List (Addr × Obj)} {σ : St} {H : Hp} {s : Shared} {a : Addr} {xs ys : List V}
theorem SqL.of {K : PySem.W.Frag} (h : H a = some (.lst xs)) : SqL K H a xs := .inl (.inl h)
theorem SqT.of {K : PySem.W.Frag} (h : H a = some (.tup xs)) : SqT K H a xs := .inl (.inl h)
theorem Inv.list (I : Inv X pins σ H s) (h : SqL X.K H a xs) : ∃ its : List Value, Vals xs its ∧ PlainL s.heap a its.toArray ∧ xs.length ≤ sizeLine := by
  rcases h with h | ⟨o, its, n, hk, hc, hd, hs, hz, r⟩
  · obtain ⟨z, its, n, r, e⟩ := h.ok I.hok
    exact ⟨its, r, ⟨_, n, e, rfl, rfl, rfl⟩, z⟩
  · refine ⟨its.toList, r, ⟨o, n, I.kIn a o hk, hc, hd, by simpa using hs⟩, ?_⟩
    have e := r.length
    simp only [Array.length_toList] at e
    omega
theorem Inv.tuple (I : Inv X pins σ H s) (h : SqT X.K H a xs) : ∃ its : List Value, Vals xs its ∧ IsTup s.heap a its.toArray ∧ xs.length ≤ sizeLine := by
  rcases h with h | ⟨o, its, n, hk, hc, hs, hz, r⟩
  · obtain ⟨z, its, r, p⟩ := h.ok I.hok
    exact ⟨its, r, p, z⟩
  · refine ⟨its.toList, r, ⟨o, I.kIn a o hk, hc, n, by simpa using hs⟩, ?_⟩
    have e := r.length
    simp only [Array.length_toList] at e
    omega
theorem Inv.list_inj (I : Inv X pins σ H s) (h : SqL X.K H a xs) (h' : SqL X.K H a ys) : xs = ys := by
  obtain ⟨its, r, ⟨o, n, e, _, _, d⟩, _⟩ := I.list h
  obtain ⟨its', r', ⟨o', n', e', _, _, d'⟩, _⟩ := I.list h'
  rw [e] at e'; cases e'
  rw [d] at d'
  injection d' with d1 _
  have : its = its' := by simpa using congrArg Array.toList d1
  subst this
  exact r.inj r'
theorem Inv.tuple_inj (I : Inv X pins σ H s) (h : SqT X.K H a xs) (h' : SqT X.K H a ys) : xs = ys := by
  obtain ⟨its, r, ⟨o, e, _, n, d⟩, _⟩ := I.tuple h
  obtain ⟨its', r', ⟨o', e', _, n', d'⟩, _⟩ := I.tuple h'
  rw [e] at e'; cases e'
  rw [d] at d'
  injection d' with d1 _
  have : its = its' := by simpa using congrArg Array.toList d1
  subst this
  exact r.inj r'
end

/-! ### another wish about exceptions -/
abbrev Cx.wish (X : Cx) (E : Value → Shared → Prop) : Cx := { X with xe := E }
/-- no exception leaves -/
abbrev Cx.nox (X : Cx) : Cx := X.wish fun _ _ => False
theorem Cx.Ok.wish {X : Cx} (ok : X.Ok) (E : Value → Shared → Prop) : (X.wish E).Ok :=
  ⟨ok.mod, ok.kind, ok.glob, ok.blt, ok.above, ok.inj, ok.has, ok.cab, ok.hd, ok.frames, ok.stk, ok.exf, ok.bs, ok.bsz, ok.noex, ok.exfs, ok.funs, ok.frf⟩
theorem Cx.Ok.unwish {X : Cx} {E : Value → Shared → Prop} (ok : (X.wish E).Ok) : X.Ok :=
  ⟨ok.mod, ok.kind, ok.glob, ok.blt, ok.above, ok.inj, ok.has, ok.cab, ok.hd, ok.frames, ok.stk, ok.exf, ok.bs, ok.bsz, ok.noex, ok.exfs, ok.funs, ok.frf⟩
section
variable {X : Cx} {pins : List (Addr × Obj)} {σ : St} {H : Hp} {s : Shared} {E : Value → Shared → Prop}
theorem Inv.wish (I : Inv X pins σ H s) (E : Value → Shared → Prop) : Inv (X.wish E) pins σ H s := ⟨I.ok.wish E, I.os, I.bare, I.base, I.loc, I.cell, I.free, I.freeC, I.pin, I.hok, I.len⟩
theorem Inv.unwish (I : Inv (X.wish E) pins σ H s) : Inv X pins σ H s := ⟨I.ok.unwish, I.os, I.bare, I.base, I.loc, I.cell, I.free, I.freeC, I.pin, I.hok, I.len⟩
theorem SP.unwish {D : Ends} {f : Flow} {s' : Shared} (h : SP (X.wish E) pins D f s') : SP X pins D f s' := by
  cases f with
  | next => obtain ⟨σ', H', I, q⟩ := h; exact ⟨σ', H', I.unwish, q⟩
  | brk => obtain ⟨σ', H', I, q⟩ := h; exact ⟨σ', H', I.unwish, q⟩
  | cont => obtain ⟨σ', H', I, q⟩ := h; exact ⟨σ', H', I.unwish, q⟩
  | ret u => obtain ⟨v, σ', H', I, r, q⟩ := h; exact ⟨v, σ', H', I.unwish, r, q⟩
theorem PE.nox {e : Expr} {t : TE} (h : PE X.nox e t) : PE X e t := fun pins s σ H Q I hw =>
  wpAny_mono (h pins s σ H Q (I.wish _) hw) (fun _ _ ⟨v, H', I', r, q⟩ => ⟨v, H', I'.unwish, r, q⟩) fun _ _ z => False.elim z
theorem PT.nox {e : Expr} {t : TT} (h : PT X.nox e t) : PT X e t := fun pins s σ H Q I hw =>
  wpAny_mono (h pins s σ H Q (I.wish _) hw) (fun _ _ ⟨H', I', q⟩ => ⟨H', I'.unwish, q⟩) fun _ _ z => False.elim z
theorem PSs.nox {st : List Stmt} {t : TS} (h : PSs X.nox st t) : PSs X st t := fun pins s σ H D I hw =>
  wpAny_mono (h pins s σ H D (I.wish _) hw) (fun _ _ q => q.unwish) fun _ _ z => False.elim z
end

/-! ### blocks and small statements -/
section
variable {X : Cx} {st : Stmt} {rest : List Stmt} {t u : TS} {e : Expr} {te : TE} {pos : Pos}
def tNext : TS := fun D σ H => D.nx σ H
def tSeq (t u : TS) : TS := fun D σ H => t { D with nx := u D } σ H
theorem pss_nil : PSs X [] tNext := fun _ _ σ H _ I h => wpAny_execs_nil ⟨σ, H, I, h⟩
theorem pss_cons (h1 : PS X st t) (h2 : PSs X rest u) : PSs X (st :: rest) (tSeq t u) := by
  intro pins s σ H D I h
  refine wpAny_execs_cons (thn (h1 pins s σ H { D with nx := u D } I h) fun f s1 q => ?_)
  cases f with
  | next =>
    obtain ⟨σ', H', I', q⟩ := q
    exact h2 pins s1 σ' H' D I' q
  | ret v => exact q
  | brk => exact q
  | cont => exact q
theorem pss_one (h1 : PS X st t) : PSs X [st] t := by
  intro pins s σ H D I h
  refine wpAny_execs_cons (thn (h1 pins s σ H D I h) fun f s1 q => ?_)
  cases f with
  | next => exact wpAny_execs_nil q
  | ret v => exact q
  | brk => exact q
  | cont => exact q
def tBreak : TS := fun D σ H => D.bk σ H
def tCont : TS := fun D σ H => D.ct σ H
theorem ps_pass : PS X (.Pass pos) tNext := fun _ _ σ H _ I h => wpAny_Pass ⟨σ, H, I, h⟩
theorem ps_break : PS X (.Break pos) tBreak := fun _ _ σ H _ I h => wpAny_Break ⟨σ, H, I, h⟩
theorem ps_continue : PS X (.Continue pos) tCont := fun _ _ σ H _ I h => wpAny_Continue ⟨σ, H, I, h⟩
/-- in a def's body nothing is shown -/
theorem Inv.quiet {pins : List (Addr × Obj)} {σ : St} {H : Hp} {s : Shared} (I : Inv X pins σ H s) : interactive X.env = false := by simp [interactive, I.ok.kind]
/-- a docstring -/
theorem ps_doc {x j pos pos'} : PS X (.Expr (.Constant (.str x) j pos) pos') tNext := fun _ s σ H _ I h => wpAny_Expr (Calls.Constant_str (show SP X _ _ .next { s with toks := s.toks + 1 } from ⟨σ, H, I.tok _, h⟩)) I.quiet
/-- an expression whose value is dropped -/
def tDrop (te : TE) : TS := fun D σ H => te σ H fun _ H1 => D.nx σ H1
theorem ps_expr (he : PE X e te) (hs : swapsWith e none pos.line X.env = pure false := by rfl) : PS X (.Expr e pos) (tDrop te) := by
  intro pins s σ H D I h
  exact wpAny_Expr_any (thn (he pins s σ H _ I h) fun v s1 ⟨x, H1, I1, r1, q1⟩ => ⟨σ, H1, I1, q1⟩) I.quiet hs
def tRet (te : TE) : TS := fun D σ H => te σ H D.rt
theorem ps_ret (he : PE X e te) : PS X (.Return (some e) pos) (tRet te) := by
  intro pins s σ H D I h
  exact wpAny_Return_some (thn (he pins s σ H _ I h) fun v s1 ⟨x, H1, I1, r1, q1⟩ => ⟨x, σ, H1, I1, r1, q1⟩)
def tRetN : TS := fun D _ H => D.rt .non H
theorem ps_retN : PS X (.Return none pos) tRetN := fun _ _ σ H _ I h => wpAny_Return_none ⟨.non, σ, H, I, rfl, h⟩
def tIfS (c : TT) (t u : TS) : TS := fun D σ H => c σ H fun b H1 => if b = true then t D σ H1 else u D σ H1
theorem ps_if {c : Expr} {a b : List Stmt} {tc : TT} (hc : PT X c tc) (ha : PSs X a t) (hb : PSs X b u) : PS X (.If c a b pos) (tIfS tc t u) := by
  intro pins s σ H D I h
  refine wpAny_If (thn (hc pins s σ H _ I h) fun d s1 ⟨H1, I1, q1⟩ => ?_)
  cases d with
  | true => exact ha pins s1 σ H1 D I1 q1
  | false => exact hb pins s1 σ H1 D I1 q1
/-- code that the proof never comes to -/
def tNever : TS := fun _ _ _ => False
theorem ps_never : PS X st tNever := fun _ _ _ _ _ _ h => h.elim
theorem pss_never {sts : List Stmt} : PSs X sts tNever := fun _ _ _ _ _ _ h => h.elim
end

/-! ### targets -/
abbrev TG := V → St → Hp → (St → Hp → Prop) → Prop
abbrev TGs := List V → St → Hp → (St → Hp → Prop) → Prop
def PG (X : Cx) (target : Expr) (t : TG) : Prop :=
  ∀ (pins : List (Addr × Obj)) (s : Shared) (σ : St) (H : Hp) (v : V) (u : Value) (Q : St → Hp → Prop), Inv X pins σ H s → RelV v u → t v σ H Q →
    wpAny (model X.prog X.w) X.A (assign target X.env u) (fun _ s' => ∃ σ' H', Inv X pins σ' H' s' ∧ Q σ' H') X.xe s
/-- several targets, one after another -/
def PGs (X : Cx) (ts : List Expr) (t : TGs) : Prop :=
  ∀ (pins : List (Addr × Obj)) (s : Shared) (σ : St) (H : Hp) (vs : List V) (us : List Value) (Q : St → Hp → Prop), Inv X pins σ H s → Vals vs us → t vs σ H Q →
    wpAny (model X.prog X.w) X.A (assignInOrder ((assignEach ts X.env).map (·.2)) us) (fun _ s' => ∃ σ' H', Inv X pins σ' H' s' ∧ Q σ' H') X.xe s
/-- o[i] = v, by values -/
abbrev TSet := V → V → V → Hp → (Hp → Prop) → Prop
def PSet (X : Cx) (t : TSet) : Prop :=
  ∀ (pins : List (Addr × Obj)) (s : Shared) (σ : St) (H : Hp) (o i v : V) (ov iv u : Value) (Q : Hp → Prop), Inv X pins σ H s → RelV o ov → RelV i iv → RelV v u → t o i v H Q →
    wpAny (model X.prog X.w) X.A (setItem ov iv u) (fun _ s' => ∃ H', Inv X pins σ H' s' ∧ Q H') X.xe s
/-- a op= b, by values -/
abbrev TIp := V → V → Hp → VK → Prop
def PIp (X : Cx) (op : Operator) (t : TIp) : Prop :=
  ∀ (pins : List (Addr × Obj)) (s : Shared) (σ : St) (H : Hp) (x y : V) (v u : Value) (Q : VK), Inv X pins σ H s → RelV x v → RelV y u → t x y H Q →
    wpAny (model X.prog X.w) X.A (inplaceOp op v u) (EP X pins σ Q) X.xe s
section
variable {X : Cx} {pos : Pos}
def gName (i : Nat) : TG := fun v σ H Q => Q (σ.set i (some v)) H
theorem pg_name {i : Nat} {x : Str} (hN : X.N.Nodup) (hi : X.N[i]? = some x) (hx : Loc X.env.scope x) (hf : X.fn x = true ∨ X.env.scope.names.lookup x = some .local := by first | exact .inl rfl | exact .inr rfl | assumption) : PG X (.Name x pos) (gName i) := by
  intro pins s σ H v u Q I r h
  exact wpAny_assign_Name (store_ok I hN hi hx r (fun s' I' => ⟨_, H, I', h⟩) hf)
def gNil : TGs := fun vs σ H Q => vs = [] ∧ Q σ H
def gCons (t : TG) (u : TGs) : TGs := fun vs σ H Q => ∃ v r, vs = v :: r ∧ t v σ H fun σ' H' => u r σ' H' Q
theorem pgs_nil : PGs X [] gNil := by
  intro pins s σ H vs us Q I r h
  obtain ⟨e, h⟩ := h
  subst e
  cases r
  exact assignInOrder_nil ⟨σ, H, I, h⟩
theorem pgs_cons {e : Expr} {es : List Expr} {t : TG} {u : TGs} (h1 : PG X e t) (h2 : PGs X es u)
    (hs : (assignEach (e :: es) X.env).map (·.2) = assign e X.env :: (assignEach es X.env).map (·.2) := by rfl) : PGs X (e :: es) (gCons t u) := by
  intro pins s σ H vs us Q I r h
  obtain ⟨v, vr, e1, h⟩ := h
  subst e1
  cases r with
  | cons r rr =>
    rw [hs]
    refine assignInOrder_cons (thn (h1 pins s σ H _ _ _ I r h) fun _ s1 ⟨σ1, H1, I1, q1⟩ => ?_)
    exact h2 pins s1 σ1 H1 _ _ Q I1 rr q1
/-- (a, b, ..) = a tuple of that length -/
def gTup (K : PySem.W.Frag) (n : Nat) (t : TGs) : TG := fun v σ H Q => ∃ a xs, v = .ref a ∧ SqT K H a xs ∧ xs.length = n ∧ t xs σ H Q
theorem pg_tup {es : List Expr} {k : Nat} {t : TGs} {n : Nat} (hc : X.calm = true) (h : PGs X es t)
    (hn : (assignEach es X.env).length = n := by rfl) (hst : (assignEach es X.env).findIdx? (·.1) = none := by rfl) : PG X (.Tuple es k pos) (gTup X.K n t) := by
  intro pins s σ H v u Q I r hw
  obtain ⟨a, xs, e1, hq, hl, hw⟩ := hw
  subst e1
  cases r
  obtain ⟨its, rv, ht, hz⟩ := I.tuple hq
  refine assign_Tuple_tuple (I.ok.hd hc) ht (by simp [hn, ← hl, rv.length]) hst fun h' hx => ?_
  have I1 : Inv X pins σ H { s with heap := h' } := I.kept (t' := s.toks) fun b o e => hx b o (Nat.ne_of_lt (Heap.lt_size e)) e
  exact h pins _ σ H xs _ Q I1 (by simpa using rv) hw
/-- o[i] = .. -/
def gSub (to ti : TE) (t : TSet) : TG := fun v σ H Q => to σ H fun o H1 => ti σ H1 fun i H2 => t o i v H2 fun H3 => Q σ H3
theorem pg_sub {o i : Expr} {to ti : TE} {t : TSet} (ho : PE X o to) (hi : PE X i ti) (hs : PSet X t)
    (ha : ∀ v, assign (.Subscript o i pos) X.env v = (do
      let ov ← holding [v] (eval o X.env)
      let iv ← holding [v, ov] (eval i X.env)
      standAt pos
      holding [v, ov, iv] (setItem ov iv v)
      release [v, ov, iv] []) := by intro _; rfl) : PG X (.Subscript o i pos) (gSub to ti t) := by
  intro pins s σ H v u Q I r h
  rw [ha]
  refine wpAny_bind (wpAny_holding (thn (ho pins s σ H _ I h) fun ov s1 ⟨x, H1, I1, r1, q1⟩ => ?_))
  refine wpAny_bind (wpAny_holding (thn (hi pins s1 σ H1 _ I1 q1) fun iv s2 ⟨y, H2, I2, r2, q2⟩ => ?_))
  refine wpAny_bind (wpAny_standAt (wpAny_bind (wpAny_holding (thn (hs pins s2 σ H2 x y v ov iv u _ I2 r1 r2 r q2) fun _ s3 ⟨H3, I3, q3⟩ => ?_))))
  exact wpAny_release ⟨σ, H3, I3, q3⟩
/-- target = value -/
def tAsg (te : TE) (g : TG) : TS := fun D σ H => te σ H fun x H1 => g x σ H1 D.nx
theorem ps_asg {tg e : Expr} {te : TE} {g : TG} (he : PE X e te) (hg : PG X tg g) (hs : swapsWithSole [tg] e pos.line X.env = pure false := by rfl) (hw : swappedStores [tg] e X.env = pure none := by rfl)
    (h1 : (assignEach [tg] X.env).map (·.2) = [assign tg X.env] := by rfl) : PS X (.Assign [tg] e pos) (tAsg te g) := by
  intro pins s σ H D I h
  refine wpAny_Assign_stores (thn (he pins s σ H _ I h) fun v s1 ⟨x, H1, I1, r1, q1⟩ => ?_) hs hw
  rw [h1]
  exact thn (hg pins s1 σ H1 x v _ I1 r1 q1) fun _ s2 q => q
/-- name = value -/
theorem ps_set {i : Nat} {x : Str} {e : Expr} {te : TE} {pos' : Pos} (hN : X.N.Nodup) (hi : X.N[i]? = some x) (hx : Loc X.env.scope x) (he : PE X e te) (hs : swapsWith e (some (.Name x pos')) pos.line X.env = pure false := by rfl) (hf : X.fn x = true ∨ X.env.scope.names.lookup x = some .local := by first | exact .inl rfl | exact .inr rfl | assumption) :
    PS X (.Assign [.Name x pos'] e pos) (tAsg te (gName i)) := by
  intro pins s σ H D I h
  refine wpAny_Assign_Name (thn (he pins s σ H _ I h) fun v s1 ⟨y, H1, I1, r1, q1⟩ => ?_) hs
  exact store_ok I1 hN hi hx r1 (fun s2 I2 => ⟨_, H1, I2, q1⟩) hf
/-- a, b = x, y with plain local names: stored from the right; the pair itself is not tracked (the opening rows as in PyProof/Rows/TupAssign.lean:23) -/
def tPar (i j : Nat) (ta : TA) : TS := fun D σ H => ta σ H fun vs H1 => ∃ v w, vs = [v, w] ∧ D.nx ((σ.set i (some v)).set j (some w)) H1
theorem ps_par {i j : Nat} {x y : Str} {a b : Expr} {ta : TA} {px py pt : Pos} {kt k2 pt2} (hc : X.calm = true) (hN : X.N.Nodup) (hi : X.N[i]? = some x) (hj : X.N[j]? = some y) (hij : i ≠ j)
    (hx : X.env.scope.names.lookup x = some .local) (hy : X.env.scope.names.lookup y = some .local) (ha : PA X [a, b] ta)
    (hw : swappedStores [.Tuple [.Name x px, .Name y py] kt pt] (.Tuple [a, b] k2 pt2) X.env = pure (some [x, y]))
    (hs : swapsWithSole [.Tuple [.Name x px, .Name y py] kt pt] (.Tuple [a, b] k2 pt2) pos.line X.env = pure false := by rfl) :
    PS X (.Assign [.Tuple [.Name x px, .Name y py] kt pt] (.Tuple [a, b] k2 pt2) pos) (tPar i j ta) := by
  intro pins s σ H D I h
  rw [exec_Assign_arm]
  refine wpAny_bind (wpAny_standAt ?_)
  rw [hs]
  refine wpAny_bind (wpAny_pure ?_)
  rw [if_neg (by decide)]
  refine wpAny_bind (Tuple_ (thn (ha _ pins s σ H _ I h) fun us s1 ⟨vs, H1, I1, r1, q1⟩ => ?_))
  obtain ⟨v, w, e1, q1⟩ := q1
  subst e1
  obtain ⟨u1, u2, rfl, rv, rw'⟩ : ∃ u1 u2, us = [u1, u2] ∧ RelV v u1 ∧ RelV w u2 := by
    cases r1 with
    | cons p q =>
      cases q with
      | cons p' q' =>
        cases q'
        exact ⟨_, _, rfl, p, p'⟩
  refine wpAny_newObj_type ?_ (by show 2 ≤ sizeLine; decide)
  have I2 : Inv X pins σ H1 { s1 with heap := s1.heap.push { cls := .type "tuple", data := .seq [u1, u2].toArray } } := I1.kept (t' := s1.toks) fun b o e => Heap.get?_push_of_some _ e
  rw [hw]
  refine wpAny_bind (wpAny_pure ?_)
  show wpAny (model X.prog X.w) X.A (do rule "assign.swapped-stores"; let items ← unpackItems (.ref s1.heap.objs.size) 2 none; assignInOrder [fun v => bindName X.env y v, fun v => bindName X.env x v] items.reverse; pure Flow.next) _ _ _
  refine wpAny_bind (wpAny_rule (wpAny_bind (unpackItems_tuple (items := #[u1, u2]) (I.ok.hd hc) (IsTup.new s1.heap _) fun h' hx' => ?_)))
  have I3 := I2.kept (h' := h') (t' := s1.toks) fun b o e => hx' b o (Nat.ne_of_lt (Heap.lt_size e)) e
  show wpAny _ _ (assignInOrder [fun v => bindName X.env y v, fun v => bindName X.env x v] [u2, u1] >>= fun _ => pure Flow.next) _ _ _
  refine wpAny_bind (assignInOrder_cons (wpAny_bindName (store_ok I3 hN hj (.inl hy) rw' (fun s2 I4 => ?_) (.inr hy))))
  refine assignInOrder_cons (wpAny_bindName (store_ok I4 hN hi (.inl hx) rv (fun s3 I5 => assignInOrder_nil (wpAny_pure ?_)) (.inr hx)))
  rw [List.set_comm _ _ (Ne.symm hij)] at I5
  exact ⟨_, H1, I5, q1⟩
/-- name op= e -/
def tAug (i : Nat) (te : TE) (ti : TIp) : TS := fun D σ H => ∃ x, σ[i]? = some (some x) ∧ te σ H fun y H1 => ti x y H1 fun z H2 => D.nx (σ.set i (some z)) H2
theorem ps_aug {i : Nat} {x : Str} {e : Expr} {te : TE} {op : Operator} {ti : TIp} {pos' : Pos} (hN : X.N.Nodup) (hi : X.N[i]? = some x) (hx : Loc X.env.scope x) (he : PE X e te) (ho : PIp X op ti) (hf : X.fn x = true ∨ X.env.scope.names.lookup x = some .local := by first | exact .inl rfl | exact .inr rfl | assumption) :
    PS X (.AugAssign (.Name x pos') op e pos) (tAug i te ti) := by
  intro pins s σ H D I h
  obtain ⟨v, e1, h⟩ := h
  obtain ⟨m, hn, hl⟩ := I.loc
  have vis : Vis X.env.scope x := by rcases hx with k | k; exact .inl k; exact .inr (.inl k)
  obtain ⟨u, r, l⟩ := hl i x v hi e1 vis
  refine wpAny_AugAssign_Name ?_
  have go : wpAny (model X.prog X.w) X.A (eval e X.env) (fun w s₂ => wpAny (model X.prog X.w) X.A (inplaceOp op u w) (fun r s₃ => wpAny (model X.prog X.w) X.A (storeName X.env x r) (fun _ => SP X pins D .next) X.xe s₃) X.xe s₂) X.xe s := by
    refine thn (he pins s σ H _ I h) fun w s1 ⟨y, H1, I1, r1, q1⟩ => ?_
    refine thn (ho pins s1 σ H1 v y u w _ I1 r r1 q1) fun z s2 ⟨zv, H2, I2, r2, q2⟩ => ?_
    exact store_ok I2 hN hi hx r2 (fun s3 I3 => ⟨_, H2, I3, q2⟩) hf
  rcases l with ⟨hk, hm⟩ | ⟨hk, c, hc, hcell⟩
  · exact wpAny_loadName_local I.ok.kind hk hn hm go
  · rcases hk with hk | hk
    · exact wpAny_loadName_cell I.ok.kind hk hc hcell go
    · rcases hx with k | k
      · have : X.env.scope.names.lookup x = some .free := hk
        rw [k] at this; cases this
      · have : X.env.scope.names.lookup x = some .free := hk
        rw [k] at this; cases this
/-- o[i] op= e -/
def tAugS (to ti te : TE) (tget : V → V → Hp → VK → Prop) (tip : TIp) (tset : TSet) : TS := fun D σ H => to σ H fun o H1 => ti σ H1 fun i H2 => tget o i H2 fun x H3 => te σ H3 fun y H4 => tip x y H4 fun z H5 => tset o i z H5 fun H6 => D.nx σ H6
/-- o[i], by values -/
def PGet (X : Cx) (t : V → V → Hp → VK → Prop) : Prop :=
  ∀ (pins : List (Addr × Obj)) (s : Shared) (σ : St) (H : Hp) (o i : V) (ov iv : Value) (Q : VK), Inv X pins σ H s → RelV o ov → RelV i iv → t o i H Q →
    wpAny (model X.prog X.w) X.A (getItem ov iv) (EP X pins σ Q) X.xe s
theorem ps_augS {o i e : Expr} {to ti te : TE} {tget : V → V → Hp → VK → Prop} {tip : TIp} {tset : TSet} {op : Operator} {tpos : Pos} (ho : PE X o to) (hi : PE X i ti) (hg : PGet X tget) (he : PE X e te) (hp : PIp X op tip) (hs : PSet X tset)
    (ha : ∀ ov iv new, augStore i ov iv new = (do holding [new, ov, iv] (setItem ov iv new); release [new, ov, iv] []; pure .next) := by intros; rfl) : PS X (.AugAssign (.Subscript o i tpos) op e pos) (tAugS to ti te tget tip tset) := by
  intro pins s σ H D I h
  refine wpAny_AugAssign_SubscriptAny (thn (ho pins s σ H _ I h) fun ov s1 ⟨x1, H1, I1, r1, q1⟩ => ?_) ha
  refine thn (hi pins s1 σ H1 _ I1 q1) fun iv s2 ⟨x2, H2, I2, r2, q2⟩ => ?_
  refine thn (hg pins s2 σ H2 x1 x2 ov iv _ I2 r1 r2 q2) fun old s3 ⟨x3, H3, I3, r3, q3⟩ => ?_
  refine thn (he pins s3 σ H3 _ I3 q3) fun v s4 ⟨x4, H4, I4, r4, q4⟩ => ?_
  refine thn (hp pins s4 σ H4 x3 x4 old v _ I4 r3 r4 q4) fun new s5 ⟨x5, H5, I5, r5, q5⟩ => ?_
  exact thn (hs pins s5 σ H5 x1 x2 x5 ov iv new _ I5 r1 r2 r5 q5) fun _ s6 ⟨H6, I6, q6⟩ => ⟨σ, H6, I6, q6⟩
/-- ints -/
def ipI (f : Int → Int → Int) : TIp := fun x y H Q => ∃ i j, x = .int i ∧ y = .int j ∧ Q (.int (f i j)) H
theorem ip_add : PIp X .Add (ipI fun i j => i + j) := by
  intro pins s σ H x y v u Q I r1 r2 h
  obtain ⟨i, j, e1, e2, q⟩ := h
  subst e1; subst e2
  obtain ⟨t, rfl⟩ := r1
  obtain ⟨t', rfl⟩ := r2
  exact iadd_int ⟨.int _, H, I.tok _, ⟨_, rfl⟩, q⟩
theorem ip_sub : PIp X .Sub (ipI fun i j => i - j) := by
  intro pins s σ H x y v u Q I r1 r2 h
  obtain ⟨i, j, e1, e2, q⟩ := h
  subst e1; subst e2
  obtain ⟨t, rfl⟩ := r1
  obtain ⟨t', rfl⟩ := r2
  exact isub_int ⟨.int _, H, I.tok _, ⟨_, rfl⟩, q⟩
end

/-! ### while -/
section
variable {X : Cx} {pos : Pos}
/-- the invariant W with its measure -/
def tWhile (c : TT) (tb : TS) : TS := fun D σ H => ∃ W : Nat → St → Hp → Prop, (∃ m, W m σ H) ∧ ∀ m σ H, W m σ H →
  c σ H fun b H1 => if b = true then ∃ N : St → Hp → Prop, (∀ σ' H', N σ' H' → ∃ m', m' < m ∧ W m' σ' H') ∧ tb { D with nx := N, ct := N, bk := D.nx } σ H1 else D.nx σ H1
theorem ps_while {c : Expr} {body : List Stmt} {tc : TT} {tb : TS} (hp : PassesOwn (model X.prog X.w) X.A X.env X.xe) (hc : PT X c tc) (hb : PSs X body tb) : PS X (.While c body [] pos) (tWhile tc tb) := by
  intro pins s σ H D I h
  obtain ⟨W, ⟨m0, w0⟩, turn⟩ := h
  refine wpAny_While (codeAny_whileLoop (fun n s' => ∃ σ' H', Inv X pins σ' H' s' ∧ W n σ' H') ?_ m0 ⟨σ, H, I, w0⟩)
  rintro n s1 ⟨σ1, H1, I1, w1⟩
  refine wpAny_passesOwn hp (thn (hc pins s1 σ1 H1 _ I1 (turn n σ1 H1 w1)) fun b s2 ⟨H2, I2, q2⟩ => ?_)
  cases b with
  | true =>
    obtain ⟨N, hN, q2⟩ := q2
    rw [if_pos rfl]
    refine wpAny_passesOwn hp (thn (hb pins s2 σ1 H2 _ I2 q2) fun f s3 q3 => ?_)
    cases f with
    | next =>
      obtain ⟨σ3, H3, I3, n3⟩ := q3
      obtain ⟨m', hm, w3⟩ := hN σ3 H3 n3
      exact ⟨m', hm, σ3, H3, I3, w3⟩
    | cont =>
      obtain ⟨σ3, H3, I3, n3⟩ := q3
      obtain ⟨m', hm, w3⟩ := hN σ3 H3 n3
      exact ⟨m', hm, σ3, H3, I3, w3⟩
    | brk => exact q3
    | ret v => exact q3
  | false =>
    rw [if_neg Bool.false_ne_true]
    exact wpAny_execs_nil ⟨σ1, H2, I2, q2⟩
end

/-! ### what a loop or a comprehension walks -/
/-- at turn i: it yields x (the heap may grow), or it stops -/
structure It where
  go : Nat → Hp → Prop
  yld : Nat → Hp → V → Hp → Prop
  stop : Nat → Hp → Prop
/-- the iterator's own objects may turn: they are not the frame's, not pinned, younger than the entry (or a comprehension's own) -/
def FpOk (X : Cx) (pins : List (Addr × Obj)) (H : Hp) (b : Addr) : Prop :=
  H b = none ∧ b ≠ X.env.locals ∧ b ∉ X.fs ∧ (b ∈ X.ex ∨ X.s₀.heap.objs.size ≤ b) ∧ (∀ x c, X.env.cells.lookup x = some c → c ≠ b) ∧ ∀ p ∈ X.pn ++ pins, p.1 ≠ b
theorem Inv.fpOk {X : Cx} {pins : List (Addr × Obj)} {σ : St} {H H' : Hp} {s : Shared} {b : Addr} (I : Inv X pins σ H s) (hb : s.heap.objs.size ≤ b) (hn : H' b = none) : FpOk X pins H' b := by
  refine ⟨hn, Nat.ne_of_gt (Nat.lt_of_lt_of_le I.lt hb), I.nofs hb, .inr (Nat.le_trans I.sz hb), fun x c e z => ?_, fun p hp z => ?_⟩
  · obtain ⟨v, q⟩ := I.cell x c e
    exact absurd (Nat.lt_of_lt_of_le q.lt (by rw [z]; exact hb)) (Nat.lt_irrefl _)
  · exact absurd (Nat.lt_of_lt_of_le (Heap.lt_size (I.pin p hp).1) (by rw [z]; exact hb)) (Nat.lt_irrefl _)
structure Turn (P : Program) (w : World) (K : PySem.W.Frag) (tg : Expr) (J : It) (fp : List Addr) (it : Addr) (tn : Nat → Heap → Prop) : Prop where
  mem : it ∈ fp
  obj : ∀ i h, tn i h → ∀ b ∈ fp, ∃ o, h.get? b = some o ∧ ∀ v, o.data ≠ .cell v
  keep : ∀ i h h', tn i h → (∀ b ∈ fp, ∀ o, h.get? b = some o → h'.get? b = some o) → tn i h'
  item : ∀ (X : Cx), X.prog = P → X.w = w → X.K = K → X.calm = true → ∀ (i : Nat) (pins : List (Addr × Obj)) (s : Shared) (σ : St) (H : Hp) (E : Value → Shared → Prop), Inv X pins σ H s → (∀ b ∈ fp, FpOk X pins H b) → tn i s.heap → J.go i H →
    wpAny (model P w) X.A (pyNext (.ref it)) (fun r s1 => ∃ u, r = some u ∧
      wpAny (model P w) X.A (letOwnedTupleGo tg (.ref it) u) (fun _ s2 => ∃ x H', Inv X pins σ H' s2 ∧ RelV x u ∧ J.yld i H x H' ∧ tn (i + 1) s2.heap ∧ ∀ b ∈ fp, H' b = none) E s1) E s
  done : ∀ (X : Cx), X.prog = P → X.w = w → X.K = K → X.calm = true → ∀ (i : Nat) (pins : List (Addr × Obj)) (s : Shared) (σ : St) (H : Hp) (E : Value → Shared → Prop), Inv X pins σ H s → (∀ b ∈ fp, FpOk X pins H b) → tn i s.heap → J.stop i H →
    wpAny (model P w) X.A (pyNext (.ref it)) (fun r s1 => r = none ∧ Inv X pins σ H s1) E s
  self : ∀ (A : Around) (i : Nat) (s : Shared) (Q : Value → Shared → Prop) (E : Value → Shared → Prop), tn i s.heap → Q (.ref it) s → wpAny (model P w) A (pyIter (.ref it)) Q E s
abbrev TI := St → Hp → (It → Hp → Prop) → Prop
/-- an iterator has come -/
def PIE (X : Cx) (pins : List (Addr × Obj)) (σ : St) (tg : Expr) (R : It → Hp → Prop) (itv : Value) (s2 : Shared) : Prop :=
  ∃ (it : Addr) (fp : List Addr) (tn : Nat → Heap → Prop) (J : It) (H' : Hp), itv = .ref it ∧ Inv X pins σ H' s2 ∧ Turn X.prog X.w X.K tg J fp it tn ∧ tn 0 s2.heap ∧ (∀ b ∈ fp, FpOk X pins H' b) ∧ R J H'
def PI (X : Cx) (tg iter : Expr) (wi : TI) : Prop :=
  ∀ (pins : List (Addr × Obj)) (s : Shared) (σ : St) (H : Hp) (R : It → Hp → Prop), Inv X pins σ H s → wi σ H R →
    wpAny (model X.prog X.w) X.A (eval iter X.env) (fun v s1 => wpAny (model X.prog X.w) X.A (pyIter v) (PIE X pins σ tg R) X.xe s1) X.xe s

/-- the step ahead of the store is nothing for an iterator that keeps no tuple -/
theorem go_of {M : Model} {A : Around} {E : Value → Shared → Prop} {s : Shared} {tg : Expr} {it : Addr} {u : Value} {o : Obj} {n : String} {vs : Array Value} {Q : Unit → Shared → Prop} (ho : s.heap.get? it = some o) (hc : o.cls = .type n) (hd : o.data = .fields vs)
    (hn : ["enumerate", "zip", "dict_itemiterator", "dict_reverseitemiterator", "odict_iterator", "itertools.zip_longest", "itertools.pairwise"].contains n = false) (hQ : Q () s) : wpAny M A (letOwnedTupleGo tg (.ref it) u) Q E s := by
  unfold letOwnedTupleGo
  cases tg <;> first
    | exact wpAny_pure hQ
    | (cases u <;> first
        | exact wpAny_pure hQ
        | (refine wpAny_bind (wpAny_load ho ?_)
           rw [hc, hd]
           show wpAny M A (if (["enumerate", "zip", "dict_itemiterator", "dict_reverseitemiterator", "odict_iterator", "itertools.zip_longest", "itertools.pairwise"].contains n && vs[0]? == some (rawInt _)) = true then _ else _) Q E s
           rw [if_neg (by intro h; rw [hn, Bool.false_and] at h; cases h)]
           exact wpAny_pure hQ))

/-- the list at a, as it stands at each turn (a loop may append to it) -/
def Itl (K : PySem.W.Frag) (a : Addr) : It :=
  ⟨fun i H => ∃ xs x, SqL K H a xs ∧ xs[i]? = some x, fun i H x H' => H' = H ∧ ∀ xs, SqL K H a xs → xs[i]? = some x, fun i H => ∃ xs, SqL K H a xs ∧ xs.length ≤ i⟩
def Itt (K : PySem.W.Frag) (a : Addr) : It :=
  ⟨fun i H => ∃ xs x, SqT K H a xs ∧ xs[i]? = some x, fun i H x H' => H' = H ∧ ∀ xs, SqT K H a xs → xs[i]? = some x, fun i H => ∃ xs, SqT K H a xs ∧ xs.length ≤ i⟩
/-- lo, lo + 1, .. (n of them) -/
def Itr (lo : Int) (n : Nat) : It := ⟨fun i _ => i < n, fun i H x H' => H' = H ∧ x = .int (lo + i), fun i _ => n ≤ i⟩
theorem turn_list {P : Program} {w : World} {K : PySem.W.Frag} {tg : Expr} (a it : Addr) : Turn P w K tg (Itl K a) [it] it (fun i h => h.IsListIter it a i) where
  mem := by simp
  obj := fun i h st b hb => by
    have e : b = it := by simpa using hb
    subst e
    obtain ⟨o, e, c, d⟩ := st
    exact ⟨o, e, fun v z => by rw [d] at z; cases z⟩
  keep := fun i h h' st k => st.at fun o e => k it (by simp) o e
  item := by
    intro X hP hw hK hc i pins s σ H E I hf st hg
    subst hP hw hK
    obtain ⟨xs, x, hq, hx⟩ := hg
    obtain ⟨its, rv, p, hz⟩ := I.list hq
    obtain ⟨u, hu, ru⟩ := rv.get hx
    obtain ⟨f0, f1, f2, f3, f4, f5⟩ := hf it (by simp)
    refine wpAny_pyNext_list_item st p.isList (x := u) (by simpa using hu) fun h' st' sb => ?_
    have I1 : Inv X pins σ H { s with heap := h' } := I.turned (t' := s.toks) (fun b o hb e => (sb.2 b hb).trans e) f0 f1 f3 f4 f5
    obtain ⟨o, e, c, d⟩ := id st'
    exact ⟨u, rfl, go_of (s := { s with heap := h' }) e c d (by decide) ⟨x, H, I1, ru, ⟨rfl, fun ys hy => by rw [I.list_inj hy hq]; exact hx⟩, st', fun b hb => (hf b hb).1⟩⟩
  done := by
    intro X hP hw hK hc i pins s σ H E I hf st hg
    subst hP hw hK
    obtain ⟨xs, hq, hx⟩ := hg
    obtain ⟨its, rv, p, hz⟩ := I.list hq
    obtain ⟨f0, f1, f2, f3, f4, f5⟩ := hf it (by simp)
    have hl := rv.length
    exact wpAny_pyNext_list_end (I.ok.hd hc) st p.isList (by simp; omega) fun h' eb => ⟨rfl, I.turned (t' := s.toks) (fun b o hb e => eb b o hb e) f0 f1 f3 f4 f5⟩
  self := fun _ _ _ _ _ st h => wpAny_pyIter_listiter st h
theorem turn_tuple {P : Program} {w : World} {K : PySem.W.Frag} {tg : Expr} (a it : Addr) : Turn P w K tg (Itt K a) [it] it (fun i h => h.IsTupleIter it a i) where
  mem := by simp
  obj := fun i h st b hb => by
    have e : b = it := by simpa using hb
    subst e
    obtain ⟨o, e, c, d⟩ := st
    exact ⟨o, e, fun v z => by rw [d] at z; cases z⟩
  keep := fun i h h' st k => st.at fun o e => k it (by simp) o e
  item := by
    intro X hP hw hK hc i pins s σ H E I hf st hg
    subst hP hw hK
    obtain ⟨xs, x, hq, hx⟩ := hg
    obtain ⟨its, rv, p, hz⟩ := I.tuple hq
    obtain ⟨u, hu, ru⟩ := rv.get hx
    obtain ⟨f0, f1, f2, f3, f4, f5⟩ := hf it (by simp)
    refine wpAny_pyNext_tuple_item st (show s.heap.IsTuple a its.toArray from p) (x := u) (by simpa using hu) fun h' st' sb => ?_
    have I1 : Inv X pins σ H { s with heap := h' } := I.turned (t' := s.toks) (fun b o hb e => (sb.2 b hb).trans e) f0 f1 f3 f4 f5
    obtain ⟨o, e, c, d⟩ := id st'
    exact ⟨u, rfl, go_of (s := { s with heap := h' }) e c d (by decide) ⟨x, H, I1, ru, ⟨rfl, fun ys hy => by rw [I.tuple_inj hy hq]; exact hx⟩, st', fun b hb => (hf b hb).1⟩⟩
  done := by
    intro X hP hw hK hc i pins s σ H E I hf st hg
    subst hP hw hK
    obtain ⟨xs, hq, hx⟩ := hg
    obtain ⟨its, rv, p, hz⟩ := I.tuple hq
    obtain ⟨f0, f1, f2, f3, f4, f5⟩ := hf it (by simp)
    have hl := rv.length
    exact wpAny_pyNext_tuple_end (I.ok.hd hc) st (show s.heap.IsTuple a its.toArray from p) (by simp; omega) fun h' eb => ⟨rfl, I.turned (t' := s.toks) (fun b o hb e => eb b o hb e) f0 f1 f3 f4 f5⟩
  self := fun _ _ _ _ _ st h => wpAny_pyIter_tupleiter st h
theorem turn_range {P : Program} {w : World} {K : PySem.W.Frag} {tg : Expr} (it : Addr) (lo : Int) (n : Nat) : Turn P w K tg (Itr lo n) [it] it (fun i h => IsRangeIter h it (lo + (i : Nat) * 1) ((n : Int) - (i : Nat)) 1) where
  mem := by simp
  obj := fun i h st b hb => by
    have e : b = it := by simpa using hb
    subst e
    exact ⟨_, st, fun v z => by
      have z' : Data.fields _ = Data.cell v := z
      cases z'⟩
  keep := fun i h h' st k => k it (by simp) _ st
  item := by
    intro X hP hw hK hc i pins s σ H E I hf st hg
    subst hP hw hK
    obtain ⟨f0, f1, f2, f3, f4, f5⟩ := hf it (by simp)
    have W := Walks.range (prog := X.prog) (w := X.w) (I.ok.hd hc) it lo 1 n
    refine W.item i s _ _ hg st fun v h' tk hv st' kk => ?_
    obtain ⟨t, rfl⟩ := hv
    have I1 : Inv X pins σ H { s with heap := h', toks := tk } := I.turned (fun b o hb e => kk b o (by simpa using hb) e) f0 f1 f3 f4 f5
    refine ⟨_, rfl, go_of (s := { s with heap := h', toks := tk }) (n := "range_iterator") st' rfl rfl (by decide) ⟨.int (lo + i), H, I1, ⟨t, ?_⟩, ⟨rfl, rfl⟩, st', fun b hb => (hf b hb).1⟩⟩
    rw [Int.mul_one]
  done := by
    intro X hP hw hK hc i pins s σ H E I hf st hg
    subst hP hw hK
    obtain ⟨f0, f1, f2, f3, f4, f5⟩ := hf it (by simp)
    exact wpAny_pyNext_range_end (I.ok.hd hc) st (by have : n ≤ i := hg; omega) fun h' eb => ⟨rfl, I.turned (t' := s.toks) (fun b o hb e => eb b o hb e) f0 f1 f3 f4 f5⟩
  self := fun _ _ _ _ _ st h => wpAny_pyIter_rangeiter st h
end L2

namespace L2
open PySem PySem.Spec PyProof.Rows
section
variable {X : Cx} {tg : Expr}
def iList (K : PySem.W.Frag) (tl : TE) : TI := fun σ H R => tl σ H fun x H1 => ∃ a, x = .ref a ∧ (∃ xs, SqL K H1 a xs) ∧ R (Itl K a) H1
def iTup (K : PySem.W.Frag) (tl : TE) : TI := fun σ H R => tl σ H fun x H1 => ∃ a, x = .ref a ∧ (∃ xs, SqT K H1 a xs) ∧ R (Itt K a) H1
theorem pi_list {l : Expr} {tl : TE} (hl : PE X l tl) : PI X tg l (iList X.K tl) := by
  intro pins s σ H R I h
  refine thn (hl pins s σ H _ I h) fun v s1 ⟨x, H1, I1, r1, q1⟩ => ?_
  obtain ⟨a, e, ⟨xs, hq⟩, q⟩ := q1
  subst e
  cases r1
  obtain ⟨its, rv, p, hz⟩ := I1.list hq
  refine wpAny_pyIter_list p.isList ?_
  refine ⟨s1.heap.objs.size, [s1.heap.objs.size], _, _, H1, rfl, I1.kept (t' := s1.toks) fun b o e => Heap.get?_push_of_some _ e, turn_list a _, ⟨_, Heap.get?_push_size _ rfl, rfl, rfl⟩, fun b hb => ?_, q⟩
  have e : b = s1.heap.objs.size := by simpa using hb
  subst e
  exact I1.fpOk (Nat.le_refl _) (I1.hok.fresh (Nat.le_refl _))
theorem pi_tup {l : Expr} {tl : TE} (hl : PE X l tl) : PI X tg l (iTup X.K tl) := by
  intro pins s σ H R I h
  refine thn (hl pins s σ H _ I h) fun v s1 ⟨x, H1, I1, r1, q1⟩ => ?_
  obtain ⟨a, e, ⟨xs, hq⟩, q⟩ := q1
  subst e
  cases r1
  obtain ⟨its, rv, p, hz⟩ := I1.tuple hq
  refine wpAny_pyIter_tuple (show s1.heap.IsTuple a its.toArray from p) ?_
  refine ⟨s1.heap.objs.size, [s1.heap.objs.size], _, _, H1, rfl, I1.kept (t' := s1.toks) fun b o e => Heap.get?_push_of_some _ e, turn_tuple a _, ⟨_, Heap.get?_push_size _ rfl, rfl, rfl⟩, fun b hb => ?_, q⟩
  have e : b = s1.heap.objs.size := by simpa using hb
  subst e
  exact I1.fpOk (Nat.le_refl _) (I1.hok.fresh (Nat.le_refl _))
/-- a range object just made, walked -/
theorem range_it {pins : List (Addr × Obj)} {σ : St} {H : Hp} {s : Shared} {R : It → Hp → Prop} {E : Value → Shared → Prop} {lo hi : Int} {t u v : Tok} {tk : Nat} (I : Inv X pins σ H s) (h1 : -(2 ^ 62) ≤ lo) (h2 : lo < 2 ^ 62) (h3 : -(2 ^ 62) ≤ hi) (h4 : hi < 2 ^ 62)
    (q : R (Itr lo (hi - lo).toNat) H) : wpAny (model X.prog X.w) X.A (pyIter (.ref s.heap.objs.size)) (PIE X pins σ tg R) E { s with heap := s.heap.push { cls := .type "range", data := .fields #[.int lo t, .int hi u, .int 1 v] }, toks := tk } := by
  refine wpAny_pyIter_range (IsRange.new ..) (small_one h1 h2 h3 h4) ?_
  have I1 : Inv X pins σ H { s with heap := s.heap.push { cls := .type "range", data := .fields #[.int lo t, .int hi u, .int 1 v] }, toks := tk } := I.kept fun b o e => Heap.get?_push_of_some _ e
  refine ⟨(s.heap.push { cls := .type "range", data := .fields #[.int lo t, .int hi u, .int 1 v] }).objs.size, [(s.heap.push { cls := .type "range", data := .fields #[.int lo t, .int hi u, .int 1 v] }).objs.size], _, _, H, rfl,
    I1.kept (t' := tk) fun b o e => Heap.get?_push_of_some _ e, turn_range _ lo (hi - lo).toNat, ?_, fun b hb => ?_, q⟩
  · have e1 : lo + ((0 : Nat) : Int) * 1 = lo := by simp
    have e2 : (((hi - lo).toNat : Nat) : Int) - ((0 : Nat) : Int) = Builtin.Range.rangeSize lo hi 1 := by rw [rangeSize_one]; split <;> omega
    show IsRangeIter _ _ (lo + ((0 : Nat) : Int) * 1) ((((hi - lo).toNat : Nat) : Int) - ((0 : Nat) : Int)) 1
    rw [e1, e2]
    exact Heap.get?_push_size _ rfl
  · have e : b = (s.heap.push { cls := .type "range", data := .fields #[.int lo t, .int hi u, .int 1 v] }).objs.size := by simpa using hb
    subst e
    exact I1.fpOk (Nat.le_refl _) (I1.hok.fresh (Nat.le_refl _))
def iRng1 (ta : TA) : TI := fun σ H R => ta σ H fun vs H1 => ∃ j : Int, vs = [.int j] ∧ -(2 ^ 62) ≤ j ∧ j < 2 ^ 62 ∧ R (Itr 0 j.toNat) H1
def iRng2 (ta : TA) : TI := fun σ H R => ta σ H fun vs H1 => ∃ i j : Int, vs = [.int i, .int j] ∧ (-(2 ^ 62) ≤ i ∧ i < 2 ^ 62 ∧ -(2 ^ 62) ≤ j ∧ j < 2 ^ 62) ∧ R (Itr i (j - i).toNat) H1
theorem pi_range1 {a : Expr} {ta : TA} {p pos : Pos} (hg : Gl X "range") (hm : X.mg "range" = none) (ha : PA X [a] ta) (hs : starEach [a] X.env = [(false, eval a X.env)] := by rfl) : PI X tg (.Call (.Name "range" p) [a] [] pos) (iRng1 ta) := by
  intro pins s σ H R I h
  refine Call_ (ld_blt I hg hm boot_range (PyProof.Rows.callWith_type1 (thn (ha pos pins s σ H _ I h) fun us s1 ⟨vs, H1, I1, r1, q1⟩ => ?_) hs rfl))
  obtain ⟨j, e, q1, q2, q⟩ := q1
  subst e
  cases r1 with
  | cons r rr =>
    cases rr
    obtain ⟨t, rfl⟩ := r
    exact call_range_1 (range_it I1 (by omega) (by omega) q1 q2 (by simpa using q))
theorem pi_range2 {a b : Expr} {ta : TA} {p pos : Pos} (hg : Gl X "range") (hm : X.mg "range" = none) (ha : PA X [a, b] ta) (hs : starEach [a, b] X.env = [(false, eval a X.env), (false, eval b X.env)] := by rfl) (hs2 : starEach [b] X.env = [(false, eval b X.env)] := by rfl) :
    PI X tg (.Call (.Name "range" p) [a, b] [] pos) (iRng2 ta) := by
  intro pins s σ H R I h
  refine Call_ (ld_blt I hg hm boot_range (PyProof.Rows.callWith_type1 (thn (ha pos pins s σ H _ I h) fun us s1 ⟨vs, H1, I1, r1, q1⟩ => ?_) (by rw [hs, hs2]) (by rw [hs2]; rfl)))
  obtain ⟨i, j, e, ⟨q1, q2, q3, q4⟩, q⟩ := q1
  subst e
  cases r1 with
  | cons r rr =>
    cases rr with
    | cons r' rr =>
      cases rr
      obtain ⟨t, rfl⟩ := r
      obtain ⟨t', rfl⟩ := r'
      exact call_range_2 (range_it I1 q1 q2 q3 q4 q)

/-! ### for -/
/-- W: the invariant by the turn and a measure; N: what the body is to reach -/
def tFor (wi : TI) (g : TG) (tb : TS) : TS := fun D σ H => wi σ H fun J H1 => ∃ W : Nat → Nat → St → Hp → Prop, (∃ m, W 0 m σ H1) ∧ ∀ i m σ H, W i m σ H →
  (J.stop i H ∧ D.nx σ H) ∨ (J.go i H ∧ ∃ N : St → Hp → Prop, (∀ σ' H', N σ' H' → ∃ m', m' < m ∧ W (i + 1) m' σ' H') ∧ ∀ x H', J.yld i H x H' → g x σ H' fun σ2 H2 => tb { D with nx := N, ct := N, bk := D.nx } σ2 H2)
/-- the records at fp as they stand -/
def pinsAt (fp : List Addr) (h : Heap) : List (Addr × Obj) := fp.filterMap fun b => (h.get? b).map fun o => (b, o)
theorem mem_pinsAt {fp : List Addr} {h : Heap} {b : Addr} {o : Obj} (hb : b ∈ fp) (e : h.get? b = some o) : (b, o) ∈ pinsAt fp h := List.mem_filterMap.mpr ⟨b, hb, by rw [e]; rfl⟩
theorem of_pinsAt {fp : List Addr} {h : Heap} {p : Addr × Obj} (hp : p ∈ pinsAt fp h) : p.1 ∈ fp ∧ h.get? p.1 = some p.2 := by
  obtain ⟨b, hb, e⟩ := List.mem_filterMap.mp hp
  cases q : h.get? b with
  | none => rw [q] at e; cases e
  | some o =>
    rw [q] at e
    have e' : (b, o) = p := Option.some.inj e
    subst e'
    exact ⟨hb, q⟩
theorem Inv.pinned {pins : List (Addr × Obj)} {σ : St} {H : Hp} {s : Shared} {fp : List Addr} (I : Inv X pins σ H s) (hf : ∀ b ∈ fp, FpOk X pins H b) (ho : ∀ b ∈ fp, ∃ o, s.heap.get? b = some o ∧ ∀ v, o.data ≠ .cell v) : Inv X (pins ++ pinsAt fp s.heap) σ H s :=
  I.pins_of fun p hp => (List.mem_append.mp hp).elim (fun z => I.pin p (List.mem_append_right _ z)) fun z => by
    obtain ⟨hb, e⟩ := of_pinsAt z
    obtain ⟨f0, f1, f2, _⟩ := hf p.1 hb
    obtain ⟨o, e', d⟩ := ho p.1 hb
    rw [e] at e'; cases e'
    exact ⟨e, f0, f1, f2, d⟩
theorem Inv.unpinned {pins pl : List (Addr × Obj)} {σ : St} {H : Hp} {s : Shared} (I : Inv X (pins ++ pl) σ H s) : Inv X pins σ H s := I.pins_of fun p hp => I.pin p (List.mem_append_right _ (List.mem_append_left _ hp))
theorem ps_for {iter : Expr} {body : List Stmt} {wi : TI} {g : TG} {tb : TS} {pos : Pos} (hp : PassesOwn (model X.prog X.w) X.A X.env X.xe) (hc : X.calm = true) (hi : PI X tg iter wi) (hg : PG X tg g) (hb : PSs X body tb)
    (hs : ∀ x, foldedSetIterable iter X.env x = pure x := by intro _; rfl) : PS X (.For tg iter body [] pos) (tFor wi g tb) := by
  intro pins s σ H D I h
  refine wpAny_For (thn (hi pins s σ H _ I h) fun v s1 h1 => thn h1 fun itv s2 h2 => ?_) hs
  obtain ⟨it, fp, tn, J, H2, e, I2, T, st2, f2, W, ⟨m0, w0⟩, turn⟩ := h2
  subst e
  -- what stays true of the iterator's objects through the loop
  have stat : ∀ {H' : Hp}, (∀ b ∈ fp, H' b = none) → ∀ b ∈ fp, FpOk X pins H' b := fun hn b hb => ⟨hn b hb, (f2 b hb).2⟩
  refine codeAny_forLoop_any (fun n s' => ∃ i σ' H', Inv X pins σ' H' s' ∧ tn i s'.heap ∧ (∀ b ∈ fp, H' b = none) ∧ W i n σ' H') ?_ m0 ⟨0, σ, H2, I2, st2, fun b hb => (f2 b hb).1, w0⟩
  rintro n s3 ⟨i, σ3, H3, I3, st3, fr3, w3⟩
  rcases turn i n σ3 H3 w3 with ⟨stop, qn⟩ | ⟨go, N, hN, step⟩
  · refine wpAny_passesOwn hp (thn (T.done X rfl rfl rfl hc i pins s3 σ3 H3 X.xe I3 (stat fr3) st3 stop) fun r s4 ⟨hr, I4⟩ => ?_)
    subst hr
    exact wpAny_execs_nil ⟨σ3, H3, I4, qn⟩
  · refine wpAny_passesOwn hp (thn (T.item X rfl rfl rfl hc i pins s3 σ3 H3 X.xe I3 (stat fr3) st3 go) fun r s4 ⟨u, hr, h4⟩ => ?_)
    subst hr
    refine wpAny_passesOwn hp (thn h4 fun _ s5 ⟨x, H5, I5, r5, y5, st5, fr5⟩ => ?_)
    have I5' := I5.pinned (stat fr5) (T.obj _ _ st5)
    refine wpAny_passesOwn hp (thn (hg _ s5 σ3 H5 x u _ I5' r5 (step x H5 y5)) fun _ s6 ⟨σ6, H6, I6, q6⟩ => ?_)
    refine wpAny_passesOwn hp (thn (hb _ s6 σ6 H6 _ I6 q6) fun f s7 q7 => ?_)
    have again : ∀ {σ7 : St} {H7 : Hp}, Inv X (pins ++ pinsAt fp s5.heap) σ7 H7 s7 → N σ7 H7 → ∃ m, m < n ∧ ∃ i σ' H', Inv X pins σ' H' s7 ∧ tn i s7.heap ∧ (∀ b ∈ fp, H' b = none) ∧ W i m σ' H' := fun {σ7 H7} I7 n7 => by
      obtain ⟨m', hm, w7⟩ := hN σ7 H7 n7
      refine ⟨m', hm, i + 1, σ7, H7, I7.unpinned, T.keep _ _ _ st5 fun b hb o e => (I7.pin (b, o) (List.mem_append_right _ (List.mem_append_right _ (mem_pinsAt hb e)))).1, fun b hb => ?_, w7⟩
      obtain ⟨o, e, d⟩ := T.obj _ _ st5 b hb
      exact (I7.pin (b, o) (List.mem_append_right _ (List.mem_append_right _ (mem_pinsAt hb e)))).2.1
    cases f with
    | next => obtain ⟨σ7, H7, I7, n7⟩ := q7; exact again I7 n7
    | cont => obtain ⟨σ7, H7, I7, n7⟩ := q7; exact again I7 n7
    | brk => obtain ⟨σ7, H7, I7, q7⟩ := q7; exact ⟨σ7, H7, I7.unpinned, q7⟩
    | ret v => obtain ⟨x7, σ7, H7, I7, r7, q7⟩ := q7; exact ⟨x7, σ7, H7, I7.unpinned, r7, q7⟩
end

/-! ### the forms one uses -/
/-- over a list that the body leaves as it is -/
theorem for_list {K : PySem.W.Frag} {a : Addr} {xs : List V} {g : TG} {tb : TS} {D : Ends} {σ : St} {H : Hp} (Pv : Nat → St → Hp → Prop) (h0 : Pv 0 σ H) (hl : ∀ i σ H, i ≤ xs.length → Pv i σ H → SqL K H a xs)
    (hs : ∀ i x σ H, xs[i]? = some x → Pv i σ H → g x σ H fun σ2 H2 => tb { D with nx := Pv (i + 1), ct := Pv (i + 1), bk := D.nx } σ2 H2) (hd : ∀ σ H, Pv xs.length σ H → D.nx σ H) :
    ∃ W : Nat → Nat → St → Hp → Prop, (∃ m, W 0 m σ H) ∧ ∀ i m σ H, W i m σ H →
      ((Itl K a).stop i H ∧ D.nx σ H) ∨ ((Itl K a).go i H ∧ ∃ N : St → Hp → Prop, (∀ σ' H', N σ' H' → ∃ m', m' < m ∧ W (i + 1) m' σ' H') ∧ ∀ x H', (Itl K a).yld i H x H' → g x σ H' fun σ2 H2 => tb { D with nx := N, ct := N, bk := D.nx } σ2 H2) := by
  refine ⟨fun i m σ H => m = xs.length - i ∧ i ≤ xs.length ∧ Pv i σ H, ⟨xs.length, by simp, Nat.zero_le _, h0⟩, ?_⟩
  rintro i m σ H ⟨rfl, hi, p⟩
  have q := hl i σ H hi p
  by_cases hlt : i < xs.length
  · refine .inr ⟨⟨xs, xs[i], q, by simp [hlt]⟩, Pv (i + 1), fun σ' H' p' => ⟨xs.length - (i + 1), by omega, rfl, hlt, p'⟩, fun x H' y => ?_⟩
    obtain ⟨e, y⟩ := y
    subst e
    exact hs i x σ _ (y xs q) p
  · have e : i = xs.length := by omega
    subst e
    exact .inl ⟨⟨xs, q, Nat.le_refl _⟩, hd σ H p⟩
theorem for_tup {K : PySem.W.Frag} {a : Addr} {xs : List V} {g : TG} {tb : TS} {D : Ends} {σ : St} {H : Hp} (Pv : Nat → St → Hp → Prop) (h0 : Pv 0 σ H) (hl : ∀ i σ H, i ≤ xs.length → Pv i σ H → SqT K H a xs)
    (hs : ∀ i x σ H, xs[i]? = some x → Pv i σ H → g x σ H fun σ2 H2 => tb { D with nx := Pv (i + 1), ct := Pv (i + 1), bk := D.nx } σ2 H2) (hd : ∀ σ H, Pv xs.length σ H → D.nx σ H) :
    ∃ W : Nat → Nat → St → Hp → Prop, (∃ m, W 0 m σ H) ∧ ∀ i m σ H, W i m σ H →
      ((Itt K a).stop i H ∧ D.nx σ H) ∨ ((Itt K a).go i H ∧ ∃ N : St → Hp → Prop, (∀ σ' H', N σ' H' → ∃ m', m' < m ∧ W (i + 1) m' σ' H') ∧ ∀ x H', (Itt K a).yld i H x H' → g x σ H' fun σ2 H2 => tb { D with nx := N, ct := N, bk := D.nx } σ2 H2) := by
  refine ⟨fun i m σ H => m = xs.length - i ∧ i ≤ xs.length ∧ Pv i σ H, ⟨xs.length, by simp, Nat.zero_le _, h0⟩, ?_⟩
  rintro i m σ H ⟨rfl, hi, p⟩
  have q := hl i σ H hi p
  by_cases hlt : i < xs.length
  · refine .inr ⟨⟨xs, xs[i], q, by simp [hlt]⟩, Pv (i + 1), fun σ' H' p' => ⟨xs.length - (i + 1), by omega, rfl, hlt, p'⟩, fun x H' y => ?_⟩
    obtain ⟨e, y⟩ := y
    subst e
    exact hs i x σ _ (y xs q) p
  · have e : i = xs.length := by omega
    subst e
    exact .inl ⟨⟨xs, q, Nat.le_refl _⟩, hd σ H p⟩
theorem for_range {lo : Int} {n : Nat} {g : TG} {tb : TS} {D : Ends} {σ : St} {H : Hp} (Pv : Nat → St → Hp → Prop) (h0 : Pv 0 σ H)
    (hs : ∀ i σ H, i < n → Pv i σ H → g (.int (lo + i)) σ H fun σ2 H2 => tb { D with nx := Pv (i + 1), ct := Pv (i + 1), bk := D.nx } σ2 H2) (hd : ∀ σ H, Pv n σ H → D.nx σ H) :
    ∃ W : Nat → Nat → St → Hp → Prop, (∃ m, W 0 m σ H) ∧ ∀ i m σ H, W i m σ H →
      ((Itr lo n).stop i H ∧ D.nx σ H) ∨ ((Itr lo n).go i H ∧ ∃ N : St → Hp → Prop, (∀ σ' H', N σ' H' → ∃ m', m' < m ∧ W (i + 1) m' σ' H') ∧ ∀ x H', (Itr lo n).yld i H x H' → g x σ H' fun σ2 H2 => tb { D with nx := N, ct := N, bk := D.nx } σ2 H2) := by
  refine ⟨fun i m σ H => m = n - i ∧ i ≤ n ∧ Pv i σ H, ⟨n, by simp, Nat.zero_le _, h0⟩, ?_⟩
  rintro i m σ H ⟨rfl, hi, p⟩
  by_cases hlt : i < n
  · refine .inr ⟨hlt, Pv (i + 1), fun σ' H' p' => ⟨n - (i + 1), by omega, rfl, hlt, p'⟩, fun x H' y => ?_⟩
    obtain ⟨e, y⟩ := y
    subst e y
    exact hs i σ _ hlt p
  · have e : i = n := by omega
    subst e
    exact .inl ⟨Nat.le_refl _, hd σ H p⟩
/-- while, by a word and a measure of the state -/
theorem while_by {c : TT} {tb : TS} {D : Ends} {σ : St} {H : Hp} (Pv : St → Hp → Prop) (μ : St → Hp → Nat) (h0 : Pv σ H)
    (hs : ∀ σ H, Pv σ H → c σ H fun b H1 => if b = true then tb { D with nx := fun σ' H' => Pv σ' H' ∧ μ σ' H' < μ σ H, ct := fun σ' H' => Pv σ' H' ∧ μ σ' H' < μ σ H, bk := D.nx } σ H1 else D.nx σ H1)
    (mono : ∀ σ H Q Q', (∀ b H1, Q b H1 → Q' b H1) → c σ H Q → c σ H Q') : tWhile c tb D σ H := by
  refine ⟨fun m σ H => m = μ σ H ∧ Pv σ H, ⟨_, rfl, h0⟩, ?_⟩
  rintro m σ H ⟨rfl, p⟩
  refine mono σ H _ _ (fun b H1 q => ?_) (hs σ H p)
  cases b with
  | true => exact ⟨_, fun σ' H' ⟨p', l⟩ => ⟨_, l, rfl, p'⟩, q⟩
  | false => exact q
end L2

namespace L2
open PySem PySem.Spec PyProof.Rows

abbrev R2 := V → V → Hp → VK → Prop
/-- a two-place operation on values: f is binaryOp op, inplaceOp op or compareOp op -/
def OpR (X : Cx) (f : Value → Value → Sem Value) (r : R2) : Prop :=
  ∀ (pins : List (Addr × Obj)) (s : Shared) (σ : St) (H : Hp) (x y : V) (v u : Value) (Q : VK), Inv X pins σ H s → RelV x v → RelV y u → r x y H Q →
    wpAny (model X.prog X.w) X.A (f v u) (EP X pins σ Q) X.xe s
/-- a one-place operation -/
def UnR (X : Cx) (f : Value → Sem Value) (r : V → Hp → VK → Prop) : Prop :=
  ∀ (pins : List (Addr × Obj)) (s : Shared) (σ : St) (H : Hp) (x : V) (v : Value) (Q : VK), Inv X pins σ H s → RelV x v → r x H Q →
    wpAny (model X.prog X.w) X.A (f v) (EP X pins σ Q) X.xe s
/-- a call of a value that is known (a builtin, a type) with values -/
def CallR (X : Cx) (f : Value) (r : List V → Hp → VK → Prop) : Prop :=
  ∀ (pins : List (Addr × Obj)) (s : Shared) (σ : St) (H : Hp) (xs : List V) (us : List Value) (Q : VK), Inv X pins σ H s → Vals xs us → r xs H Q →
    wpAny (model X.prog X.w) X.A (call f us) (EP X pins σ Q) X.xe s
/-- a value's truth -/
def TruR (X : Cx) (r : V → Hp → (Bool → Hp → Prop) → Prop) : Prop :=
  ∀ (pins : List (Addr × Obj)) (s : Shared) (σ : St) (H : Hp) (x : V) (v : Value) (Q : Bool → Hp → Prop), Inv X pins σ H s → RelV x v → r x H Q →
    wpAny (model X.prog X.w) X.A (truthy v) (TP X pins σ Q) X.xe s

def tOp (r : R2) (ta tb : TE) : TE := fun σ H Q => ta σ H fun x H1 => tb σ H1 fun y H2 => r x y H2 Q
def tUn (r : V → Hp → VK → Prop) (ta : TE) : TE := fun σ H Q => ta σ H fun x H1 => r x H1 Q
/-- ints in, under C, and a value out -/
def rI (C : Int → Int → Prop) (g : Int → Int → V) : R2 := fun x y H Q => ∃ i j, x = .int i ∧ y = .int j ∧ C i j ∧ Q (g i j) H
def rI0 (g : Int → Int → V) : R2 := fun x y H Q => ∃ i j, x = .int i ∧ y = .int j ∧ Q (g i j) H
def rU (g : Int → V) : V → Hp → VK → Prop := fun x H Q => ∃ i, x = .int i ∧ Q (g i) H

section
variable {X : Cx} {a b c : Expr} {ta tb tc : TE} {pos : Pos}

theorem binT (ha : PE X a ta) (hb : PE X b tb) {pins : List (Addr × Obj)} {s : Shared} {σ : St} {H : Hp} {R : V → V → Hp → Prop} (I : Inv X pins σ H s)
    (h : ta σ H fun x H1 => tb σ H1 fun y H2 => R x y H2) {Q : Value → Shared → Prop} {f : Value → Value → Sem Value}
    (hf : ∀ v u s2 x y H2, Inv X pins σ H2 s2 → RelV x v → RelV y u → R x y H2 → wpAny (model X.prog X.w) X.A (f v u) Q X.xe s2) :
    wpAny (model X.prog X.w) X.A (eval a X.env) (fun v s₁ => wpAny (model X.prog X.w) X.A (eval b X.env) (fun u s₂ => wpAny (model X.prog X.w) X.A (f v u) Q X.xe s₂) X.xe s₁) X.xe s := by
  refine thn (ha pins s σ H _ I h) fun v s1 ⟨x, H1, I1, r1, q1⟩ => ?_
  refine thn (hb pins s1 σ H1 _ I1 q1) fun u s2 ⟨y, H2, I2, r2, q2⟩ => ?_
  exact hf v u s2 x y H2 I2 r1 r2 q2

theorem pe_op {op : Operator} {r : R2} (ho : OpR X (binaryOp op) r) (ha : PE X a ta) (hb : PE X b tb) : PE X (.BinOp a op b pos) (tOp r ta tb) := by
  intro pins s σ H Q I h
  exact wpAny_BinOp (binT ha hb I h fun v u s2 x y H2 I2 rx ry q => ho pins s2 σ H2 x y v u Q I2 rx ry q)
theorem pe_un {op : UnaryOp} {r : V → Hp → VK → Prop} (ho : UnR X (unaryOp op) r) (ha : PE X a ta) : PE X (.UnaryOp op a pos) (tUn r ta) := by
  intro pins s σ H Q I h
  exact UnaryOp_ (thn (ha pins s σ H _ I h) fun v s1 ⟨x, H1, I1, r1, q1⟩ => ho pins s1 σ H1 x v Q I1 r1 q1)
/-- a op= e at a name: the name's slot i -/
theorem augR {op : Operator} {r : R2} (ho : OpR X (inplaceOp op) r) {pins : List (Addr × Obj)} {s : Shared} {σ : St} {H : Hp} {x y : V} {v u : Value} {Q : VK} (I : Inv X pins σ H s)
    (rx : RelV x v) (ry : RelV y u) (q : r x y H Q) : wpAny (model X.prog X.w) X.A (inplaceOp op v u) (EP X pins σ Q) X.xe s := ho pins s σ H x y v u Q I rx ry q

/-! ### ints -/
theorem opI {f : Value → Value → Sem Value} {C : Int → Int → Prop} {g : Int → Int → Int}
    (rule : ∀ (i j : Int) (t u : Tok) (s : Shared) (Q : Value → Shared → Prop) (E : Value → Shared → Prop), C i j → Q (.int (g i j) s.toks) { s with toks := s.toks + 1 } → wpAny (model X.prog X.w) X.A (f (.int i t) (.int j u)) Q E s) :
    OpR X f (rI C fun i j => .int (g i j)) := by
  intro pins s σ H x y v u Q I rx ry h
  obtain ⟨i, j, rfl, rfl, hc, q⟩ := h
  obtain ⟨t, rfl⟩ := rx
  obtain ⟨t', rfl⟩ := ry
  exact rule i j t t' s _ _ hc ⟨.int (g i j), H, I.tok _, ⟨_, rfl⟩, q⟩
theorem opI0 {f : Value → Value → Sem Value} {g : Int → Int → Int}
    (rule : ∀ (i j : Int) (t u : Tok) (s : Shared) (Q : Value → Shared → Prop) (E : Value → Shared → Prop), Q (.int (g i j) s.toks) { s with toks := s.toks + 1 } → wpAny (model X.prog X.w) X.A (f (.int i t) (.int j u)) Q E s) :
    OpR X f (rI0 fun i j => .int (g i j)) := by
  intro pins s σ H x y v u Q I rx ry h
  obtain ⟨i, j, rfl, rfl, q⟩ := h
  obtain ⟨t, rfl⟩ := rx
  obtain ⟨t', rfl⟩ := ry
  exact rule i j t t' s _ _ ⟨.int (g i j), H, I.tok _, ⟨_, rfl⟩, q⟩
theorem opB0 {f : Value → Value → Sem Value} {g : Int → Int → Bool}
    (rule : ∀ (i j : Int) (t u : Tok) (s : Shared) (Q : Value → Shared → Prop) (E : Value → Shared → Prop), Q (.bool (g i j)) s → wpAny (model X.prog X.w) X.A (f (.int i t) (.int j u)) Q E s) :
    OpR X f (rI0 fun i j => .bl (g i j)) := by
  intro pins s σ H x y v u Q I rx ry h
  obtain ⟨i, j, rfl, rfl, q⟩ := h
  obtain ⟨t, rfl⟩ := rx
  obtain ⟨t', rfl⟩ := ry
  exact rule i j t t' s _ _ ⟨.bl (g i j), H, I, rfl, q⟩

def CDiv (i j : Int) : Prop := 0 < j ∧ j < 1073741824
def CDivN (i j : Int) : Prop := j ≠ 0 ∧ j.natAbs < 1073741824
def CPow (i j : Int) : Prop := 0 ≤ j ∧ j ≤ 1000000 ∧ i.natAbs < 2 ^ 64
def CMul (i j : Int) : Prop := (-(2 ^ 64) < i ∧ i < 2 ^ 64) ∨ (-(2 ^ 64) < j ∧ j < 2 ^ 64)
theorem CMul.ok {i j : Int} (h : CMul i j) : IntMulOk i j := by
  rcases h with ⟨h1, h2⟩ | ⟨h1, h2⟩
  · exact .of_left (intBits_le_64 h1 h2)
  · exact .of_right (intBits_le_64 h1 h2)
theorem two_pow_nn (k : Nat) : (0 : Int) ≤ 2 ^ k := by
  rw [two_pow_cast]
  exact Int.natCast_nonneg _

theorem op_add : OpR X (binaryOp .Add) (rI0 fun i j => .int (i + j)) := opI0 fun _ _ _ _ _ _ _ q => add_int q
theorem op_sub : OpR X (binaryOp .Sub) (rI0 fun i j => .int (i - j)) := opI0 fun _ _ _ _ _ _ _ q => sub_int q
theorem op_mul : OpR X (binaryOp .Mult) (rI CMul fun i j => .int (i * j)) := opI fun _ _ _ _ _ _ _ hc q => mul_int q hc.ok
/-- // by a positive divisor -/
theorem op_fdiv : OpR X (binaryOp .FloorDiv) (rI CDiv fun i j => .int (i / j)) := opI fun i j _ _ _ _ _ hc q => by
  have h1 : (0 : Int) < j := hc.1
  have h2 : j < 1073741824 := hc.2
  exact floordiv_int (by omega) (by rw [Int.fdiv_eq_ediv_of_nonneg i (by omega)]; exact q) (.inl (PyProof.noPylong_small (by omega)))
theorem op_fdivN : OpR X (binaryOp .FloorDiv) (rI CDivN fun i j => .int (i.fdiv j)) := opI fun _ _ _ _ _ _ _ hc q => floordiv_int hc.1 q (.inl (PyProof.noPylong_small hc.2))
/-- % by a positive divisor of any size -/
theorem op_mod : OpR X (binaryOp .Mod) (rI (fun _ j => 0 < j) fun i j => .int (i % j)) := opI fun i j _ _ _ _ _ hc q => by
  have h1 : (0 : Int) < j := hc
  exact mod_int' (by omega) (by rw [Int.fmod_eq_emod_of_nonneg i (by omega)]; exact q)
theorem op_modN : OpR X (binaryOp .Mod) (rI (fun _ j => j ≠ 0) fun i j => .int (i.fmod j)) := opI fun _ _ _ _ _ _ _ hc q => mod_int' hc q
theorem op_pow : OpR X (binaryOp .Pow) (rI CPow fun i j => .int (i ^ j.toNat)) := opI fun _ _ _ _ _ _ _ hc q => pow_int_small hc.1 hc.2.1 hc.2.2 q
theorem op_shl : OpR X (binaryOp .LShift) (rI CPow fun i j => .int (i * 2 ^ j.toNat)) := opI fun _ _ _ _ _ _ _ hc q => lshift_int_small hc.1 hc.2.1 hc.2.2 q
theorem op_shr : OpR X (binaryOp .RShift) (rI (fun _ j => 0 ≤ j) fun i j => .int (i / 2 ^ j.toNat)) := opI fun i j _ _ _ _ _ hc q =>
  rshift_int hc (by rw [Int.fdiv_eq_ediv_of_nonneg i (two_pow_nn _)]; exact q)
theorem op_and : OpR X (binaryOp .BitAnd) (rI0 fun i j => .int (Builtin.bitAnd i j)) := opI0 fun _ _ _ _ _ _ _ q => and_int q
theorem op_or : OpR X (binaryOp .BitOr) (rI0 fun i j => .int (Builtin.bitOr i j)) := opI0 fun _ _ _ _ _ _ _ q => or_int q
theorem op_xor : OpR X (binaryOp .BitXor) (rI0 fun i j => .int (Builtin.bitXor i j)) := opI0 fun _ _ _ _ _ _ _ q => xor_int q

theorem iop_add : OpR X (inplaceOp .Add) (rI0 fun i j => .int (i + j)) := opI0 fun _ _ _ _ _ _ _ q => iadd_int q
theorem iop_sub : OpR X (inplaceOp .Sub) (rI0 fun i j => .int (i - j)) := opI0 fun _ _ _ _ _ _ _ q => isub_int q
theorem iop_mul : OpR X (inplaceOp .Mult) (rI CMul fun i j => .int (i * j)) := opI fun _ _ _ _ _ _ _ hc q => imul_int q hc.ok
theorem iop_fdiv : OpR X (inplaceOp .FloorDiv) (rI CDiv fun i j => .int (i / j)) := opI fun i j _ _ _ _ _ hc q => by
  have h1 : (0 : Int) < j := hc.1
  have h2 : j < 1073741824 := hc.2
  exact ifloordiv_int (by omega) (by rw [Int.fdiv_eq_ediv_of_nonneg i (by omega)]; exact q) (.inl (PyProof.noPylong_small (by omega)))
theorem iop_mod : OpR X (inplaceOp .Mod) (rI (fun _ j => 0 < j) fun i j => .int (i % j)) := opI fun i j _ _ _ _ _ hc q => by
  have h1 : (0 : Int) < j := hc
  exact imod_int (by omega) (by rw [Int.fmod_eq_emod_of_nonneg i (by omega)]; exact q)
theorem iop_shl : OpR X (inplaceOp .LShift) (rI CPow fun i j => .int (i * 2 ^ j.toNat)) := opI fun _ _ _ _ _ _ _ hc q => ilshift_int_small hc.1 hc.2.1 hc.2.2 q
theorem iop_shr : OpR X (inplaceOp .RShift) (rI (fun _ j => 0 ≤ j) fun i j => .int (i / 2 ^ j.toNat)) := opI fun i j _ _ _ _ _ hc q =>
  irshift_int hc (by rw [Int.fdiv_eq_ediv_of_nonneg i (two_pow_nn _)]; exact q)
theorem iop_and : OpR X (inplaceOp .BitAnd) (rI0 fun i j => .int (Builtin.bitAnd i j)) := opI0 fun _ _ _ _ _ _ _ q => iand_int q
theorem iop_or : OpR X (inplaceOp .BitOr) (rI0 fun i j => .int (Builtin.bitOr i j)) := opI0 fun _ _ _ _ _ _ _ q => ior_int q
theorem iop_xor : OpR X (inplaceOp .BitXor) (rI0 fun i j => .int (Builtin.bitXor i j)) := opI0 fun _ _ _ _ _ _ _ q => ixor_int q

theorem unI {f : Value → Sem Value} {g : Int → Int}
    (rule : ∀ (i : Int) (t : Tok) (s : Shared) (Q : Value → Shared → Prop) (E : Value → Shared → Prop), Q (.int (g i) s.toks) { s with toks := s.toks + 1 } → wpAny (model X.prog X.w) X.A (f (.int i t)) Q E s) :
    UnR X f (rU fun i => .int (g i)) := by
  intro pins s σ H x v Q I rx h
  obtain ⟨i, rfl, q⟩ := h
  obtain ⟨t, rfl⟩ := rx
  exact rule i t s _ _ ⟨.int (g i), H, I.tok _, ⟨_, rfl⟩, q⟩
theorem un_neg : UnR X (unaryOp .USub) (rU fun i => .int (-i)) := unI fun _ _ _ _ _ q => neg_int q
theorem un_inv : UnR X (unaryOp .Invert) (rU fun i => .int (Builtin.bitNot i)) := unI fun _ _ _ _ _ q => invert_int q

/-! ### bools among ints: n += (a < b) -/
theorem op_add_ib : OpR X (binaryOp .Add) (fun x y H Q => ∃ i k, x = .int i ∧ y = .bl k ∧ Q (.int (i + b2i k)) H) := by
  intro pins s σ H x y v u Q I rx ry h
  obtain ⟨i, k, rfl, rfl, q⟩ := h
  obtain ⟨t, rfl⟩ := rx
  cases ry
  exact add_int_bool ⟨.int (i + b2i k), H, I.tok _, ⟨_, rfl⟩, q⟩
end

/-! ### comparisons -/
/-- the scalars that == tells apart as data does -/
def scal : V → V → Bool
  | .non, .non => true | .non, .int _ => true | .int _, .non => true | .non, .bl _ => true | .bl _, .non => true | .non, .str _ => true | .str _, .non => true
  | .int _, .int _ => true | .bl _, .bl _ => true | .str _, .str _ => true | .byt _, .byt _ => true
  | .int _, .str _ => true | .str _, .int _ => true | .bl _, .str _ => true | .str _, .bl _ => true
  | _, _ => false
def rEq : R2 := fun x y H Q => scal x y = true ∧ Q (.bl (decide (x = y))) H
def rNe : R2 := fun x y H Q => scal x y = true ∧ Q (.bl (!decide (x = y))) H

theorem dec_int {i j : Int} : decide (V.int i = V.int j) = (i == j) := by
  rw [Bool.eq_iff_iff]
  simp
theorem dec_bl {i j : Bool} : decide (V.bl i = V.bl j) = (i == j) := by
  rw [Bool.eq_iff_iff]
  simp
theorem dec_str {i j : Str} : decide (V.str i = V.str j) = (i == j) := by
  rw [Bool.eq_iff_iff]
  simp
theorem dec_byt {i j : Array UInt8} : decide (V.byt i = V.byt j) = (i.toList == j.toList) := by
  rw [Bool.eq_iff_iff]
  cases i
  cases j
  simp

section
variable {X : Cx} {a b c : Expr} {ta tb tc : TE} {pos : Pos}
theorem fin_bl {pins : List (Addr × Obj)} {σ : St} {H : Hp} {s : Shared} {Q : VK} {k k' : Bool} (I : Inv X pins σ H s) (q : Q (.bl k) H) (e : k = k') : EP X pins σ Q (.bool k') s := by
  subst e
  exact ⟨.bl k, H, I, rfl, q⟩
theorem op_eq : OpR X (compareOp .Eq) rEq := by
  intro pins s σ H x y v u Q I rx ry h
  obtain ⟨hs, q⟩ := h
  cases x with
  | non =>
    cases rx
    cases y with
    | non => cases ry; exact PySem.EqNone.eq_none_none (fin_bl I q (by simp))
    | bl j => cases ry; exact PySem.EqNone.eq_none_bool (fin_bl I q (by simp))
    | int j => obtain ⟨t', rfl⟩ := ry; exact PySem.EqNone.eq_none_int (fin_bl I q (by simp))
    | str j => obtain ⟨t', rfl⟩ := ry; exact PySem.EqNone.eq_none_str (fin_bl I q (by simp))
    | _ => exact absurd (show false = true from hs) Bool.false_ne_true
  | bl i =>
    cases rx
    cases y with
    | non => cases ry; exact PySem.EqNone.eq_bool_none (fin_bl I q (by simp))
    | bl j => cases ry; exact eq_bool (fin_bl I q dec_bl)
    | str j => obtain ⟨t', rfl⟩ := ry; exact PySem.EqMixed.eq_bool_str (fin_bl I q (by simp))
    | _ => exact absurd (show false = true from hs) Bool.false_ne_true
  | int i =>
    obtain ⟨t, rfl⟩ := rx
    cases y with
    | non => cases ry; exact PySem.EqNone.eq_int_none (fin_bl I q (by simp))
    | int j => obtain ⟨t', rfl⟩ := ry; exact eq_int (fin_bl I q dec_int)
    | str j => obtain ⟨t', rfl⟩ := ry; exact PySem.EqMixed.eq_int_str (fin_bl I q (by simp))
    | _ => exact absurd (show false = true from hs) Bool.false_ne_true
  | str i =>
    obtain ⟨t, rfl⟩ := rx
    cases y with
    | non => cases ry; exact PySem.EqNone.eq_str_none (fin_bl I q (by simp))
    | bl j => cases ry; exact PySem.EqMixed.eq_str_bool (fin_bl I q (by simp))
    | int j => obtain ⟨t', rfl⟩ := ry; exact PySem.EqMixed.eq_str_int (fin_bl I q (by simp))
    | str j => obtain ⟨t', rfl⟩ := ry; exact eq_str (fin_bl I q dec_str)
    | _ => exact absurd (show false = true from hs) Bool.false_ne_true
  | byt i =>
    obtain ⟨t, rfl⟩ := rx
    cases y with
    | byt j => obtain ⟨t', rfl⟩ := ry; exact PySem.W.eq_bytes (fin_bl I q dec_byt)
    | _ => exact absurd (show false = true from hs) Bool.false_ne_true
  | _ => cases y <;> exact absurd (show false = true from hs) Bool.false_ne_true
theorem op_ne : OpR X (compareOp .NotEq) rNe := by
  intro pins s σ H x y v u Q I rx ry h
  obtain ⟨hs, q⟩ := h
  cases x with
  | non =>
    cases rx
    cases y with
    | non => cases ry; exact PySem.EqNone.ne_none_none (fin_bl I q (by simp))
    | bl j => cases ry; exact PySem.EqNone.ne_none_bool (fin_bl I q (by simp))
    | int j => obtain ⟨t', rfl⟩ := ry; exact PySem.EqNone.ne_none_int (fin_bl I q (by simp))
    | str j => obtain ⟨t', rfl⟩ := ry; exact PySem.EqNone.ne_none_str (fin_bl I q (by simp))
    | _ => exact absurd (show false = true from hs) Bool.false_ne_true
  | bl i =>
    cases rx
    cases y with
    | non => cases ry; exact PySem.EqNone.ne_bool_none (fin_bl I q (by simp))
    | bl j => cases ry; exact ne_bool (fin_bl I q (congrArg not dec_bl))
    | str j => obtain ⟨t', rfl⟩ := ry; exact PySem.EqMixed.ne_bool_str (fin_bl I q (by simp))
    | _ => exact absurd (show false = true from hs) Bool.false_ne_true
  | int i =>
    obtain ⟨t, rfl⟩ := rx
    cases y with
    | non => cases ry; exact PySem.EqNone.ne_int_none (fin_bl I q (by simp))
    | int j => obtain ⟨t', rfl⟩ := ry; exact ne_int (fin_bl I q (congrArg not dec_int))
    | str j => obtain ⟨t', rfl⟩ := ry; exact PySem.EqMixed.ne_int_str (fin_bl I q (by simp))
    | _ => exact absurd (show false = true from hs) Bool.false_ne_true
  | str i =>
    obtain ⟨t, rfl⟩ := rx
    cases y with
    | non => cases ry; exact PySem.EqNone.ne_str_none (fin_bl I q (by simp))
    | bl j => cases ry; exact PySem.EqMixed.ne_str_bool (fin_bl I q (by simp))
    | int j => obtain ⟨t', rfl⟩ := ry; exact PySem.EqMixed.ne_str_int (fin_bl I q (by simp))
    | str j => obtain ⟨t', rfl⟩ := ry; exact ne_str (fin_bl I q (congrArg not dec_str))
    | _ => exact absurd (show false = true from hs) Bool.false_ne_true
  | byt i =>
    obtain ⟨t, rfl⟩ := rx
    cases y with
    | byt j => obtain ⟨t', rfl⟩ := ry; exact PySem.W.ne_bytes (fin_bl I q (congrArg not dec_byt))
    | _ => exact absurd (show false = true from hs) Bool.false_ne_true
  | _ => cases y <;> exact absurd (show false = true from hs) Bool.false_ne_true

theorem op_lt : OpR X (compareOp .Lt) (rI0 fun i j => .bl (decide (i < j))) := opB0 fun _ _ _ _ _ _ _ q => lt_int q
theorem op_le : OpR X (compareOp .LtE) (rI0 fun i j => .bl (decide (i ≤ j))) := opB0 fun _ _ _ _ _ _ _ q => le_int q
theorem op_gt : OpR X (compareOp .Gt) (rI0 fun i j => .bl (decide (j < i))) := opB0 fun _ _ _ _ _ _ _ q => gt_int q
theorem op_ge : OpR X (compareOp .GtE) (rI0 fun i j => .bl (decide (j ≤ i))) := opB0 fun _ _ _ _ _ _ _ q => ge_int q
theorem op_lt_str : OpR X (compareOp .Lt) (fun x y H Q => ∃ i j, x = .str i ∧ y = .str j ∧ Q (.bl (decide (i.cps.toList < j.cps.toList))) H) := by
  intro pins s σ H x y v u Q I rx ry h
  obtain ⟨i, j, rfl, rfl, q⟩ := h
  obtain ⟨t, rfl⟩ := rx
  obtain ⟨t', rfl⟩ := ry
  exact lt_str (fin_bl I q rfl)
/-- the one string within the other -/
theorem op_in_str : OpR X (compareOp .In) (fun x y H Q => ∃ i j, x = .str i ∧ y = .str j ∧ Q (.bl (!(Builtin.Str.occurrences j i 0 j.length 1).isEmpty)) H) := by
  intro pins s σ H x y v u Q I rx ry h
  obtain ⟨i, j, rfl, rfl, q⟩ := h
  obtain ⟨t, rfl⟩ := rx
  obtain ⟨t', rfl⟩ := ry
  exact in_str (fin_bl I q rfl)

/-- is None, is not None: the right side a value none -/
theorem op_isN : OpR X (compareOp .Is) (fun x y H Q => y = .non ∧ Q (.bl (decide (x = .non))) H) := by
  intro pins s σ H x y v u Q I rx ry h
  obtain ⟨rfl, q⟩ := h
  cases ry
  refine is_none_gen (fin_bl I q ?_)
  cases x <;> first
    | (cases rx; rfl)
    | (obtain ⟨t, rfl⟩ := rx; rfl)
theorem op_notN : OpR X (compareOp .IsNot) (fun x y H Q => y = .non ∧ Q (.bl (!decide (x = .non))) H) := by
  intro pins s σ H x y v u Q I rx ry h
  obtain ⟨rfl, q⟩ := h
  cases ry
  refine isnot_none_gen (fin_bl I q ?_)
  cases x <;> first
    | (cases rx; rfl)
    | (obtain ⟨t, rfl⟩ := rx; rfl)

theorem op_notin_str : OpR X (compareOp .NotIn) (fun x y H Q => ∃ i j, x = .str i ∧ y = .str j ∧ Q (.bl (!(!(Builtin.Str.occurrences j i 0 j.length 1).isEmpty))) H) := by
  intro pins s σ H x y v u Q I rx ry h
  obtain ⟨i, j, rfl, rfl, q⟩ := h
  obtain ⟨t, rfl⟩ := rx
  obtain ⟨t', rfl⟩ := ry
  exact notIn_str (fin_bl I q rfl)
/-- is, is not of two objects that are tracked lists or instances -/
def isObj : HO → Bool
  | .lst _ => true
  | .ins _ _ _ => true
  | _ => false
theorem obj_there {pins : List (Addr × Obj)} {s : Shared} {σ : St} {H : Hp} {a : Addr} {o : HO} (I : Inv X pins σ H s) (h : H a = some o) (p : isObj o = true) : ∃ ob, s.heap.get? a = some ob ∧ ob.cls ≠ .type "tuple" := by
  cases o with
  | lst xs =>
    obtain ⟨_, its, n, _, e⟩ : xs.length ≤ sizeLine ∧ ∃ (its : List Value) (n : Nat), Vals xs its ∧ s.heap.get? a = some { cls := .type "list", data := .seq its.toArray n } := I.hok a _ h
    exact ⟨_, e, (by show Value.type "list" ≠ .type "tuple"; decide +kernel)⟩
  | ins C dx fs =>
    have x := I.hok a _ h
    obtain ⟨_, _, _, e, _⟩ := x
    exact ⟨_, e, (by show Value.ref C ≠ .type "tuple"; exact fun z => by cases z)⟩
  | _ => exact absurd (show false = true from p) Bool.false_ne_true
theorem op_is_ref : OpR X (compareOp .Is) (fun x y H Q => ∃ a b oa ob, x = .ref a ∧ y = .ref b ∧ H a = some oa ∧ isObj oa = true ∧ H b = some ob ∧ isObj ob = true ∧ Q (.bl (decide (a = b))) H) := by
  intro pins s σ H x y v u Q I rx ry h
  obtain ⟨a, b, oa, ob, rfl, rfl, ha, pa, hb, pb, q⟩ := h
  cases rx
  cases ry
  obtain ⟨o1, e1, n1⟩ := obj_there I ha pa
  obtain ⟨o2, e2, _⟩ := obj_there I hb pb
  by_cases z : a = b
  · subst z
    exact wpAny_is_ref_self (fin_bl I q (by simp))
  · exact wpAny_is_ref_other z e1 e2 n1 (fin_bl I q (by simp [z]))
theorem op_isnot_ref : OpR X (compareOp .IsNot) (fun x y H Q => ∃ a b oa ob, x = .ref a ∧ y = .ref b ∧ H a = some oa ∧ isObj oa = true ∧ H b = some ob ∧ isObj ob = true ∧ Q (.bl (!decide (a = b))) H) := by
  intro pins s σ H x y v u Q I rx ry h
  obtain ⟨a, b, oa, ob, rfl, rfl, ha, pa, hb, pb, q⟩ := h
  cases rx
  cases ry
  obtain ⟨o1, e1, n1⟩ := obj_there I ha pa
  obtain ⟨o2, e2, _⟩ := obj_there I hb pb
  by_cases z : a = b
  · subst z
    exact wpAny_isNot_ref_self (fin_bl I q (by simp))
  · exact wpAny_isNot_ref_other z e1 e2 n1 (fin_bl I q (by simp [z]))

/-- two rules for one operation: by cases -/
theorem OpR.or {f : Value → Value → Sem Value} {r r' : R2} (h : OpR X f r) (h' : OpR X f r') : OpR X f (fun x y H Q => r x y H Q ∨ r' x y H Q) := by
  intro pins s σ H x y v u Q I rx ry q
  rcases q with q | q
  · exact h pins s σ H x y v u Q I rx ry q
  · exact h' pins s σ H x y v u Q I rx ry q

theorem nomark (b : Expr) {op : CmpOp} (h : op ≠ .In := by decide) (h2 : op ≠ .NotIn := by decide) : behindInMarks op b = false := by
  have e1 : (op == CmpOp.In) = false := by cases op <;> first | rfl | exact absurd rfl h
  have e2 : (op == CmpOp.NotIn) = false := by cases op <;> first | rfl | exact absurd rfl h2
  cases b <;> simp [behindInMarks, e1, e2]
/-- a comparison as a value; hm: nomark b, or (for in, not in) by with_unfolding_all rfl -/
theorem pe_cmpR {op : CmpOp} {r : R2} (ho : OpR X (compareOp op) r) (ha : PE X a ta) (hb : PE X b tb) (hm : behindInMarks op b = false) : PE X (.Compare a [op] [b] pos) (tOp r ta tb) := by
  intro pins s σ H Q I h
  exact wpAny_Compare1 (binT ha hb I h fun v u s2 x y H2 I2 rx ry q => ho pins s2 σ H2 x y v u Q I2 rx ry q) hm
/-- a reading of a value as a test -/
def tTest (t : TE) : TT := fun σ H Q => t σ H fun x H' => ∃ k, x = .bl k ∧ Q k H'
theorem pt_cmpR {op : CmpOp} {r : R2} (ho : OpR X (compareOp op) r) (ha : PE X a ta) (hb : PE X b tb) (hm : behindInMarks op b = false) : PT X (.Compare a [op] [b] pos) (tTest (tOp r ta tb)) := by
  intro pins s σ H Q I h
  refine wpAny_isTrue_Compare1 (thn (ha pins s σ H _ I h) fun v s1 ⟨x, H1, I1, r1, q1⟩ => thn (hb pins s1 σ H1 _ I1 q1) fun u s2 ⟨y, H2, I2, r2, q2⟩ =>
    thn (ho pins s2 σ H2 x y v u _ I2 r1 r2 q2) fun c s3 ⟨z, H3, I3, r3, k, e, q3⟩ => ?_) hm
  subst e
  cases r3
  exact wpAny_truthy_bool ⟨H3, I3, q3⟩
/-- a op1 b op2 c -/
def tChain (r r' : R2) (ta tb tc : TE) : TE := fun σ H Q => ta σ H fun x H1 => tb σ H1 fun y H2 => r x y H2 fun z H3 => ∃ k, z = .bl k ∧
  (if k = true then tc σ H3 fun w' H4 => r' y w' H4 Q else Q (.bl false) H3)
theorem pe_chain {op op' : CmpOp} {r r' : R2} (ho : OpR X (compareOp op) r) (ho' : OpR X (compareOp op') r') (ha : PE X a ta) (hb : PE X b tb) (hc : PE X c tc)
    (hm : lastMarks [op, op'] [b, c] = false := by with_unfolding_all rfl) : PE X (.Compare a [op, op'] [b, c] pos) (tChain r r' ta tb tc) := by
  intro pins s σ H Q I h
  refine Compare_chain (thn (ha pins s σ H _ I h) fun v s1 ⟨x, H1, I1, r1, q1⟩ => chain_link (thn (hb pins s1 σ H1 _ I1 q1) fun u s2 ⟨y, H2, I2, r2, q2⟩ =>
    thn (ho pins s2 σ H2 x y v u _ I2 r1 r2 q2) fun d s3 ⟨z, H3, I3, r3, k, e, q3⟩ => ?_)) hm
  subst e
  cases r3
  refine wpAny_truthy_bool ?_
  cases k with
  | false => exact ite_ff ⟨.bl false, H3, I3, rfl, q3⟩
  | true => exact ite_tt (chain_last (thn (hc pins s3 σ H3 _ I3 q3) fun w' s4 ⟨z', H4, I4, r4, q4⟩ => ho' pins s4 σ H4 y z' u w' Q I4 r2 r4 q4))
theorem pt_chain {op op' : CmpOp} {r r' : R2} (ho : OpR X (compareOp op) r) (ho' : OpR X (compareOp op') r') (ha : PE X a ta) (hb : PE X b tb) (hc : PE X c tc)
    (hm : lastMarks [op, op'] [b, c] = false := by with_unfolding_all rfl) : PT X (.Compare a [op, op'] [b, c] pos) (tTest (tChain r r' ta tb tc)) := by
  intro pins s σ H Q I h
  refine isTrue_chain (thn (ha pins s σ H _ I h) fun v s1 ⟨x, H1, I1, r1, q1⟩ => test_link (thn (hb pins s1 σ H1 _ I1 q1) fun u s2 ⟨y, H2, I2, r2, q2⟩ =>
    thn (ho pins s2 σ H2 x y v u _ I2 r1 r2 q2) fun d s3 ⟨z, H3, I3, r3, k, e, q3⟩ => ?_)) hm
  subst e
  cases r3
  refine wpAny_truthy_bool ?_
  cases k with
  | false =>
    obtain ⟨k', e', q'⟩ := q3
    cases e'
    exact ite_ff ⟨H3, I3, q'⟩
  | true =>
    refine ite_tt (test_last (thn (hc pins s3 σ H3 _ I3 q3) fun w' s4 ⟨z', H4, I4, r4, q4⟩ => thn (ho' pins s4 σ H4 y z' u w' _ I4 r2 r4 q4) fun d' s5 ⟨z2, H5, I5, r5, k2, e2, q5⟩ => ?_))
    subst e2
    cases r5
    exact wpAny_truthy_bool ⟨H5, I5, q5⟩

/-! ### truth -/
/-- a value's truth by the abstract heap -/
def TruV (K : PySem.W.Frag) (x : V) (H : Hp) (k : Bool) : Prop :=
  match x with
  | .non => k = false
  | .bl b => k = b
  | .int i => k = (i != 0)
  | .str y => y.length ≤ sizeLine ∧ k = ((y.length : Int) != 0)
  | .byt y => y.size ≤ sizeLine ∧ k = ((y.size : Int) != 0)
  | .ref p => (∃ xs, SqL K H p xs ∧ k = !xs.isEmpty) ∨ (∃ xs, SqT K H p xs ∧ k = !xs.isEmpty) ∨ ∃ kvs, H p = some (.dK kvs) ∧ k = !kvs.isEmpty
  | _ => False
theorem isEmpty_kv {κ : Type} {kvs : List (κ × V)} {vs : List (κ × Value)} (r : KV kvs vs) : (!vs.isEmpty) = !kvs.isEmpty := by
  cases r <;> rfl
theorem isEmpty_of {xs : List V} {its : List Value} (r : Vals xs its) : (!its.toArray.isEmpty) = !xs.isEmpty := by
  cases r <;> simp
theorem line63 : (sizeLine : Nat) < 2 ^ 63 := by rw [sizeLine_eq]; decide
theorem tru_ok : TruR X (fun x H Q => ∃ k, TruV X.K x H k ∧ Q k H) := by
  intro pins s σ H x v Q I rx h
  obtain ⟨k, e, q⟩ := h
  have hl := line63
  have hs : sizeLine = 16777216 := sizeLine_eq
  cases x with
  | non =>
    cases rx
    have e' : k = false := e
    subst e'
    exact truthy_none ⟨H, I, q⟩
  | bl b =>
    cases rx
    have e' : k = b := e
    subst e'
    exact wpAny_truthy_bool ⟨H, I, q⟩
  | int i =>
    obtain ⟨t, rfl⟩ := rx
    have e' : k = (i != 0) := e
    subst e'
    exact PySem.P.truthy_int ⟨H, I, q⟩
  | str y =>
    obtain ⟨t, rfl⟩ := rx
    obtain ⟨hy, e'⟩ : y.length ≤ sizeLine ∧ k = ((y.length : Int) != 0) := e
    subst e'
    exact PySem.P.truthy_str (by omega) ⟨H, I.tok _, q⟩
  | byt y =>
    obtain ⟨t, rfl⟩ := rx
    obtain ⟨hy, e'⟩ : y.size ≤ sizeLine ∧ k = ((y.size : Int) != 0) := e
    subst e'
    exact PySem.W.truthy_bytes (by omega) ⟨H, I.tok _, q⟩
  | ref p =>
    cases rx
    have e' : (∃ xs, SqL X.K H p xs ∧ k = !xs.isEmpty) ∨ (∃ xs, SqT X.K H p xs ∧ k = !xs.isEmpty) ∨ ∃ kvs, H p = some (.dK kvs) ∧ k = !kvs.isEmpty := e
    rcases e' with ⟨xs, hx, e'⟩ | ⟨xs, hx, e'⟩ | ⟨kvs, hx, e'⟩
    · subst e'
      obtain ⟨its, r, pl, hz⟩ := I.list hx
      have hlen := r.length
      exact wpAny_truthy_list pl.isList (by simp only [List.size_toArray]; omega) ⟨H, I.tok _, by rw [isEmpty_of r]; exact q⟩
    · subst e'
      obtain ⟨its, r, pl, hz⟩ := I.tuple hx
      have hlen := r.length
      exact truthy_tuple pl (by simp only [List.size_toArray]; omega) ⟨H, I.tok _, by rw [isEmpty_of r]; exact q⟩
    · subst e'
      obtain ⟨hz, hS, vs, r, m⟩ : kvs.length ≤ sizeLine ∧ (p == sysModules) = false ∧ ∃ vs, KV kvs vs ∧ s.heap.DictOf (mixKind X.prog X.w) p vs := I.hok p _ hx
      have hlen : kvs.length = vs.length := Paired.length r
      exact wpAny_truthy_dict hS m (by omega) ⟨H, I.tok _, by rw [isEmpty_kv r]; exact q⟩
  | _ => exact (show False from e).elim
/-- any expression whose test is its value's truth (a name, a call, a subscript, a field ..: he by fun _ => rfl) -/
theorem pt_truth (ha : PE X a ta) (he : ∀ whole, isTrue a X.env whole = (do let v ← whole; standAt a.pos; holding [v] (truthy v))) :
    PT X a (fun σ H Q => ta σ H fun x H' => ∃ k, TruV X.K x H' k ∧ Q k H') := by
  intro pins s σ H Q I h
  exact isTrue_plain (thn (ha pins s σ H _ I h) fun v s1 ⟨x, H1, I1, r1, q1⟩ => tru_ok pins s1 σ H1 x v Q I1 r1 q1) (he _)

/-! ### strs and bytes -/
theorem pe_byt {x : List UInt8} {k : Nat} : PE X (.Constant (.bytes x) k pos) (fun _ H Q => Q (.byt x.toArray) H) := fun _ _ _ H _ I h => PySem.W.Constant_bytes ⟨.byt x.toArray, H, I.tok _, ⟨_, rfl⟩, h⟩
theorem op_add_str : OpR X (binaryOp .Add) (fun x y H Q => ∃ i j, x = .str i ∧ y = .str j ∧ i.length + j.length ≤ sizeLine ∧ Q (.str (i ++ j)) H) := by
  intro pins s σ H x y v u Q I rx ry h
  obtain ⟨i, j, rfl, rfl, hz, q⟩ := h
  obtain ⟨t, rfl⟩ := rx
  obtain ⟨t', rfl⟩ := ry
  exact add_str (fun t' tk => ⟨.str (i ++ j), H, I.tok _, ⟨_, rfl⟩, q⟩) hz
theorem iop_add_str : OpR X (inplaceOp .Add) (fun x y H Q => ∃ i j, x = .str i ∧ y = .str j ∧ i.length + j.length ≤ sizeLine ∧ Q (.str (i ++ j)) H) := by
  intro pins s σ H x y v u Q I rx ry h
  obtain ⟨i, j, rfl, rfl, hz, q⟩ := h
  obtain ⟨t, rfl⟩ := rx
  obtain ⟨t', rfl⟩ := ry
  exact iadd_str (fun t' tk => ⟨.str (i ++ j), H, I.tok _, ⟨_, rfl⟩, q⟩) hz
theorem op_add_byt : OpR X (binaryOp .Add) (fun x y H Q => ∃ i j, x = .byt i ∧ y = .byt j ∧ i.size + j.size ≤ 16777216 ∧ Q (.byt (i ++ j)) H) := by
  intro pins s σ H x y v u Q I rx ry h
  obtain ⟨i, j, rfl, rfl, hz, q⟩ := h
  obtain ⟨t, rfl⟩ := rx
  obtain ⟨t', rfl⟩ := ry
  exact PySem.W.KBy.add_bytes hz (fun t' tk => ⟨.byt (i ++ j), H, I.tok _, ⟨_, rfl⟩, q⟩)

def PlainIxT (b : Expr) : Prop := ∀ o i, subscripted b false o i = operate [o, i] (getItem o i)
/-- s[i], 0 ≤ i < len -/
theorem pe_item_str (ha : PE X a ta) (hb : PE X b tb) (hs : PlainIxT b) :
    PE X (.Subscript a b pos) (tOp (fun x y H Q => ∃ z i c, x = .str z ∧ y = .int i ∧ 0 ≤ i ∧ i < 2 ^ 63 ∧ i < z.length ∧ z.cps[i.toNat]? = some c ∧ Q (.str ⟨#[c]⟩) H) ta tb) := by
  intro pins s σ H Q I h
  refine Subscript_ (binT ha hb I h fun v u s2 x y H2 I2 rx ry q => ?_)
  obtain ⟨z, i, c, rfl, rfl, h0, h63, h1, hc, q⟩ := q
  obtain ⟨t, rfl⟩ := rx
  obtain ⟨t', rfl⟩ := ry
  have e : seqIndex? i z.length = some i.toNat := PySem.StrLaws.seqIndex_nonneg h0 h1
  exact tail_any (typeIs_str s2 z t) slot_str_getitem.lookup (getItem_str (c := c) (by
    have e1 : decide (i < -(2 ^ 63 : Int)) = false := decide_eq_false (by omega)
    have e2 : decide (i ≥ 2 ^ 63) = false := decide_eq_false (by omega)
    rw [e1, e2] <;> rfl) (by rw [e]; exact hc) ⟨.str ⟨#[c]⟩, H2, I2.tok _, ⟨_, rfl⟩, q⟩) (hs _ _)
/-- b[i], 0 ≤ i < len -/
theorem pe_item_byt (ha : PE X a ta) (hb : PE X b tb) (hs : PlainIxT b) :
    PE X (.Subscript a b pos) (tOp (fun x y H Q => ∃ (z : List UInt8) (i : Int), x = .byt z.toArray ∧ y = .int i ∧ z.length ≤ sizeLine ∧ 0 ≤ i ∧ i < z.length ∧ Q (.int ((z.getD i.toNat 0).toNat : Nat)) H) ta tb) := by
  intro pins s σ H Q I h
  refine Subscript_ (binT ha hb I h fun v u s2 x y H2 I2 rx ry q => ?_)
  obtain ⟨z, i, rfl, rfl, hz, h0, h1, q⟩ := q
  obtain ⟨t, rfl⟩ := rx
  obtain ⟨t', rfl⟩ := ry
  have hl : sizeLine = 16777216 := sizeLine_eq
  exact tail_any (PySem.W.typeIs_bytes s2 z.toArray t) PySem.W.FB.slot_bytes_getitem.lookup (PySem.W.getItem_bytes (by omega) h0 h1 ⟨.int ((z.getD i.toNat 0).toNat : Nat), H2, I2.tok _, ⟨_, rfl⟩, q⟩) (hs _ _)

/-! ### scalar builtins, by CallR -/
theorem vals1 {x : V} {us : List Value} (r : Vals [x] us) : ∃ u, us = [u] ∧ RelV x u := by
  cases r with
  | cons r1 r2 => cases r2; exact ⟨_, rfl, r1⟩
theorem vals2 {x y : V} {us : List Value} (r : Vals [x, y] us) : ∃ u w', us = [u, w'] ∧ RelV x u ∧ RelV y w' := by
  cases r with
  | cons r1 r2 =>
    cases r2 with
    | cons r3 r4 => cases r4; exact ⟨_, _, rfl, r1, r3⟩
theorem call_abs : CallR X (.builtin "abs") (fun xs H Q => ∃ i, xs = [.int i] ∧ Q (.int (if i < 0 then -i else i)) H) := by
  intro pins s σ H xs us Q I r h
  obtain ⟨i, rfl, q⟩ := h
  obtain ⟨u, rfl, t, rfl⟩ := vals1 r
  exact call_abs_int fun u tk => ⟨.int (if i < 0 then -i else i), H, I.tok _, ⟨_, rfl⟩, q⟩
theorem call_max2 (hc : X.calm = true) : CallR X (.builtin "max") (fun xs H Q => ∃ i j, xs = [.int i, .int j] ∧ Q (.int (if j > i then j else i)) H) := by
  intro pins s σ H xs us Q I r h
  obtain ⟨i, j, rfl, q⟩ := h
  obtain ⟨u, w', rfl, ⟨t, rfl⟩, ⟨t', rfl⟩⟩ := vals2 r
  refine max_two_ints (I.ok.hd hc) fun h' tk k => ⟨_, H, I.kept k, ?_, q⟩
  by_cases hj : j > i
  · rw [if_pos hj, if_pos hj]; exact ⟨_, rfl⟩
  · rw [if_neg hj, if_neg hj]; exact ⟨_, rfl⟩
theorem call_min2 (hc : X.calm = true) : CallR X (.builtin "min") (fun xs H Q => ∃ i j, xs = [.int i, .int j] ∧ Q (.int (if j < i then j else i)) H) := by
  intro pins s σ H xs us Q I r h
  obtain ⟨i, j, rfl, q⟩ := h
  obtain ⟨u, w', rfl, ⟨t, rfl⟩, ⟨t', rfl⟩⟩ := vals2 r
  refine min_two_ints (I.ok.hd hc) fun h' tk k => ⟨_, H, I.kept k, ?_, q⟩
  by_cases hj : j < i
  · rw [if_pos hj, if_pos hj]; exact ⟨_, rfl⟩
  · rw [if_neg hj, if_neg hj]; exact ⟨_, rfl⟩
theorem call_int1 : CallR X (.type "int") (fun xs H Q => (∃ i, xs = [.int i] ∧ Q (.int i) H) ∨ ∃ k, xs = [.bl k] ∧ Q (.int (if k then 1 else 0)) H) := by
  intro pins s σ H xs us Q I r h
  rcases h with ⟨i, rfl, q⟩ | ⟨k, rfl, q⟩
  · obtain ⟨u, rfl, t, rfl⟩ := vals1 r
    exact call_int_int ⟨.int i, H, I, ⟨_, rfl⟩, q⟩
  · obtain ⟨u, rfl, r1⟩ := vals1 r
    cases r1
    exact call_int_bool ⟨.int (if k then 1 else 0), H, I.tok _, ⟨_, rfl⟩, q⟩
theorem call_bool1 : CallR X (.type "bool") (fun xs H Q => (∃ i, xs = [.int i] ∧ Q (.bl (i != 0)) H) ∨ ∃ k, xs = [.bl k] ∧ Q (.bl k) H) := by
  intro pins s σ H xs us Q I r h
  rcases h with ⟨i, rfl, q⟩ | ⟨k, rfl, q⟩
  · obtain ⟨u, rfl, t, rfl⟩ := vals1 r
    exact call_bool_int ⟨.bl (i != 0), H, I, rfl, q⟩
  · obtain ⟨u, rfl, r1⟩ := vals1 r
    cases r1
    exact call_bool_bool ⟨.bl k, H, I, rfl, q⟩
theorem call_str_int : CallR X (.type "str") (fun xs H Q => ∃ i, xs = [.int i] ∧ i.natAbs.log2 < 1920 ∧ Q (.str (toString i)) H) := by
  intro pins s σ H xs us Q I r h
  obtain ⟨i, rfl, hz, q⟩ := h
  obtain ⟨u, rfl, t, rfl⟩ := vals1 r
  exact PySem.P.str_of_int hz ⟨.str _, H, I.tok _, ⟨_, rfl⟩, q⟩
theorem call_ord : CallR X (.builtin "ord") (fun xs H Q => ∃ x, xs = [.str x] ∧ x.length = 1 ∧ Q (.int (x.cps.getD 0 0 : Nat)) H) := by
  intro pins s σ H xs us Q I r h
  obtain ⟨x, rfl, hz, q⟩ := h
  obtain ⟨u, rfl, t, rfl⟩ := vals1 r
  exact ord_of_one hz ⟨.int _, H, I.tok _, ⟨_, rfl⟩, q⟩
theorem call_chr : CallR X (.builtin "chr") (fun xs H Q => ∃ i, xs = [.int i] ∧ 0 ≤ i ∧ i ≤ 1114111 ∧ Q (.str ⟨#[i.toNat]⟩) H) := by
  intro pins s σ H xs us Q I r h
  obtain ⟨i, rfl, h0, h1, q⟩ := h
  obtain ⟨u, rfl, t, rfl⟩ := vals1 r
  exact chr_of_range h0 h1 ⟨.str _, H, I.tok _, ⟨_, rfl⟩, q⟩
/-- len of a str, a bytes, a list, a tuple -/
def LenV (K : PySem.W.Frag) (x : V) (H : Hp) (n : Nat) : Prop :=
  match x with
  | .str y => y.length ≤ sizeLine ∧ n = y.length
  | .byt y => y.size ≤ sizeLine ∧ n = y.size
  | .ref p => (∃ xs, SqL K H p xs ∧ n = xs.length) ∨ ∃ xs, SqT K H p xs ∧ n = xs.length
  | _ => False
theorem call_len : CallR X (.builtin "len") (fun xs H Q => ∃ x n, xs = [x] ∧ LenV X.K x H n ∧ Q (.int n) H) := by
  intro pins s σ H xs us Q I r h
  obtain ⟨x, n, rfl, e, q⟩ := h
  obtain ⟨u, rfl, rx⟩ := vals1 r
  have hl := line63
  have hs : sizeLine = 16777216 := sizeLine_eq
  cases x with
  | str y =>
    obtain ⟨t, rfl⟩ := rx
    obtain ⟨hy, e'⟩ : y.length ≤ sizeLine ∧ n = y.length := e
    subst e'
    exact len_str (by omega) ⟨.int _, H, I.tok _, ⟨_, rfl⟩, q⟩
  | byt y =>
    obtain ⟨t, rfl⟩ := rx
    obtain ⟨hy, e'⟩ : y.size ≤ sizeLine ∧ n = y.size := e
    subst e'
    exact PySem.W.len_bytes (by omega) ⟨.int _, H, I.tok _, ⟨_, rfl⟩, q⟩
  | ref p =>
    cases rx
    have e' : (∃ xs, SqL X.K H p xs ∧ n = xs.length) ∨ ∃ xs, SqT X.K H p xs ∧ n = xs.length := e
    rcases e' with ⟨xs, hx, e'⟩ | ⟨xs, hx, e'⟩
    · subst e'
      obtain ⟨its, r', pl, hz⟩ := I.list hx
      have hlen := r'.length
      exact Calls.call_len_list pl.isList (by simp only [List.size_toArray]; omega) ⟨.int xs.length, H, I.tok _, ⟨_, by simp only [List.size_toArray]; rw [hlen]⟩, q⟩
    · subst e'
      obtain ⟨its, r', pl, hz⟩ := I.tuple hx
      have hlen := r'.length
      exact len_tuple pl (by simp only [List.size_toArray]; omega) ⟨.int xs.length, H, I.tok _, ⟨_, by simp only [List.size_toArray]; rw [hlen]⟩, q⟩
  | _ => exact (show False from e).elim
/-- divmod: a new tuple -/
theorem call_divmod : CallR X (.builtin "divmod") (fun xs H Q => ∃ i j, xs = [.int i, .int j] ∧ CDiv i j ∧ ∀ p, H p = none → Q (.ref p) (upd H p (.tup [.int (i / j), .int (i % j)]))) := by
  intro pins s σ H xs us Q I r h
  obtain ⟨i, j, rfl, ⟨h1, h2⟩, q⟩ := h
  obtain ⟨u, w', rfl, ⟨t, rfl⟩, ⟨t', rfl⟩⟩ := vals2 r
  refine divmod_int (by omega) ?_ (.inl (PyProof.noPylong_small (by omega)))
  rw [Int.fdiv_eq_ediv_of_nonneg i (by omega), Int.fmod_eq_emod_of_nonneg i (by omega)]
  have hn : H s.heap.objs.size = none := I.hok.fresh (Nat.le_refl _)
  refine ⟨.ref s.heap.objs.size, _, ?_, rfl, q _ hn⟩
  refine I.laid (fun b o e => Heap.get?_push_of_some _ e) (Nat.le_refl _) ⟨by simp only [List.length_cons, List.length_nil]; rw [sizeLine_eq]; decide, [.int (i / j) s.toks, .int (i % j) (s.toks + 1)], .cons ⟨_, rfl⟩ (.cons ⟨_, rfl⟩ .nil), ?_⟩
  exact ⟨_, Heap.get?_push_size s.heap rfl, rfl, 0, rfl⟩
end
end L2

namespace L2
open PySem PySem.Spec PyProof.Rows

/-! ### an instance, its attributes a map -/
structure ObjM (h : Heap) (x dx C : Addr) (mA : Str → Option Value) : Prop where
  obj : h.get? x = some (PySem.W.instObj C dx)
  ns : h.Ns1 dx mA
  ne : dx ≠ x

theorem lookIn_ns {h : Heap} {dx : Addr} {mA : Str → Option Value} (n : h.Ns1 dx mA) : ∃ od, h.get? dx = some od ∧ ∀ name, PySem.W.lookIn name od = some (mA name) := by
  obtain ⟨o, es, ep, ho, hd, hk, _, hm⟩ := n
  refine ⟨o, ho, fun name => ?_⟩
  have e := hm name
  unfold nsFind findBy at e
  rw [← Array.find?_toList] at e
  unfold PySem.W.lookIn
  rw [hd]
  dsimp only
  split
  · rename_i y q
    rw [q] at e
    exact congrArg some e
  · rename_i q
    rw [q] at e
    have a : es.toList.any (·.refKey) = false := by
      rw [List.any_eq_false]
      intro y hy
      obtain ⟨z, t, hkey⟩ := hk y (Array.mem_toList_iff.mp hy)
      simp [DictEntry.refKey, hkey]
    have a' : ¬ es.toList.any (·.refKey) = true := by rw [a]; exact Bool.false_ne_true
    rw [if_neg a']
    exact congrArg some e

theorem ObjM.look {h : Heap} {x dx C : Addr} {mA : Str → Option Value} (I : ObjM h x dx C mA) : ∃ od, PySem.W.InstAt h x (PySem.W.instObj C dx) C (some od) ∧ ∀ name, PySem.W.lookIn name od = some (mA name) :=
  let ⟨od, ho, hl⟩ := lookIn_ns I.ns
  ⟨od, ⟨I.obj, rfl, rfl, ho⟩, hl⟩

section
variable {prog : Program} {w : World} {A : Around} {E : Value → Shared → Prop} {s : Shared} {K : PySem.W.Frag} {x dx C f : Addr} {mA : Str → Option Value} {name : Str} {v : Value}

theorem get_map {expr : Bool} {Q : Value → Shared → Prop} (X : K.In s.heap) (I : ObjM s.heap x dx C mA) (hg : PySem.W.plainGet K C name = true) (hh : PySem.W.hasDictIn K C = true)
    (ha : PySem.W.findIn K (.ref C) name = some none) (hv : mA name = some v) (hv' : PySem.W.handedIn v = true) (h : Q v { s with toks := s.toks + 1 }) :
    wpAny (model prog w) A (getAttr (.ref x) name expr) Q E s := by
  obtain ⟨od, J, hl⟩ := I.look
  exact PySem.W.get_value X J (PySem.W.plainGet_of hg).1 (PySem.W.findObj_own hh ha rfl (by rw [hl, hv])) hv' h

theorem get_const {expr : Bool} {a : Value} {Q : Value → Shared → Prop} (X : K.In s.heap) (I : ObjM s.heap x dx C mA) (hg : PySem.W.plainGet K C name = true) (hh : PySem.W.hasDictIn K C = true)
    (ha : PySem.W.findIn K (.ref C) name = some (some a)) (hn : PySem.W.specialIn K a "__get__" = some none) (hc : PySem.W.copiedNames.contains name = false) (hv : mA name = none) (hv' : PySem.W.handedIn a = true)
    (h : Q a { s with toks := s.toks + 1 }) : wpAny (model prog w) A (getAttr (.ref x) name expr) Q E s := by
  obtain ⟨od, J, hl⟩ := I.look
  exact PySem.W.get_value X J (PySem.W.plainGet_of hg).1 (PySem.W.findObj_cls hh ha hn hv' hc (by rw [hl, hv])) hv' h

theorem get_meth {pl : Sem Bool} {Q : Value × List Value → Shared → Prop} (X : K.In s.heap) (I : ObjM s.heap x dx C mA) (hg : PySem.W.plainGet K C name = true)
    (hf : PySem.W.findIn K (.ref C) name = some (some (.ref f))) (ht : PySem.W.isFn K (.ref f) = true) (hv : mA name = none) (h : Q (.ref f, [.ref x]) s) :
    wpAny (model prog w) A (getMethod (.ref x) name pl) Q E s := by
  obtain ⟨od, J, hl⟩ := I.look
  exact PySem.W.method_fn X J (PySem.W.plainGet_of hg).1 (PySem.W.plainGet_of hg).2 hf (beq_iff_eq.mp ht) (by show (PySem.W.lookIn name od).map (·.isSome) = some false; rw [hl, hv]; rfl) h

theorem set_map {ns : List Str} {Q : Unit → Shared → Prop} (X : K.In s.heap) (I : ObjM s.heap x dx C mA)
    (hs : PySem.W.findIn K (.ref C) "__setattr__" = some (some (.builtin "object.__setattr__"))) (hp : PySem.W.plainOver K C = true) (ht : PySem.W.takerIn K C name = some none) (hh : PySem.W.hasDictIn K C = true)
    (hw : PySem.Within mA ns) (hsz : ns.length ≤ sizeLine)
    (h : ∀ h', ObjM h' x dx C (fun y => if y = name then some v else mA y) → Heap.SameBut dx s.heap h' → Q () { s with heap := h', toks := s.toks + 2 }) :
    wpAny (model prog w) A (setAttr (.ref x) name v) Q E s := by
  obtain ⟨od, J, hl⟩ := I.look
  refine PySem.W.set_plain X J hs (PySem.W.osa_open (s := { s with toks := s.toks + 1 }) (r := none) X J hp ht fun b => ?_)
  obtain ⟨cd, hc, hd'⟩ := PySem.W.any_some hh
  have hx : s.heap.get? x = some ⟨.ref C, some dx, .plain, #[]⟩ := I.obj
  refine wpAny_bind (wpAny_pure (wpAny_bind (wpAny_bind (wpAny_loadPart hx (wpAny_bind (PySem.W.Looks.here (s := { s with toks := s.toks + 1 }) (PySem.W.looks_clsIn X hc) ?_))))))
  rw [hd']
  refine wpAny_pure (a := some dx) (wpAny_bind (wpAny_pure (wpAny_bind ?_)))
  refine wpAny_nsSet1 (s := { s with toks := s.toks + 1 }) I.ns fun h' hn2 hs2 => ?_
  obtain ⟨oD, esD, epD, hoD, hdD, hcD⟩ := hn2.count (PySem.Within.cons name v hw)
  refine wpAny_bind (wpAny_lookBehind hoD (by rw [hdD]; exact pastItsLine_dict (Nat.le_trans hcD (by rw [List.length_cons]; omega))) ?_)
  exact wpAny_pure (h _ ⟨(hs2.2 _ (Ne.symm I.ne)).trans I.obj, hn2, I.ne⟩ hs2)

/-- C(..): the dict at the heap's end, the instance behind it; then its __init__ -/
theorem make_map {R : Result → Shared → Prop} {vs : List Value} {kw : List (Str × Value)} (X : K.In s.heap) (hm : PySem.W.makesIn K C = true)
    (hi : PySem.W.findIn K (.ref C) "__init__" = some (some (.ref f))) (hf : PySem.W.typeIn K (.ref f) = some (.type "function"))
    (h : codeAny (model prog w) (A.under (.builtin "type.__call__" ⟨.ref C :: vs, kw⟩)) (.call (.ref f) ⟨.ref (s.heap.objs.size + 1) :: vs, kw⟩) (PySem.W.InitBack (s.heap.objs.size + 1) R)
      { s with heap := (s.heap.push PySem.W.emptyDict).push (PySem.W.instObj C s.heap.objs.size) }) :
    codeAny (model prog w) A (.call (.ref C) ⟨vs, kw⟩) R s := by
  obtain ⟨hh, g, d, t, os⟩ := s
  exact PySem.W.make_core (PySem.W.makes_of X hm) (PySem.W.looks_findIn X hi) (fun self => PySem.W.bind_fn X self hf) (.inl rfl) h
/-- C() where there is no __init__ but object's -/
theorem make_map0 {R : Result → Shared → Prop} (X : K.In s.heap) (hm : PySem.W.makesIn K C = true)
    (hi : PySem.W.findIn K (.ref C) "__init__" = some (some (.builtin "object.__init__")))
    (hb : ∀ self, PySem.W.Looks (model prog w) s.heap (bindSpecial (.builtin "object.__init__") self) (.builtin "object.__init__", [self]))
    (h : codeAny (model prog w) (A.under (.builtin "type.__call__" ⟨[.ref C], []⟩)) (.call (.builtin "object.__init__") ⟨[.ref (s.heap.objs.size + 1)], []⟩) (PySem.W.InitBack (s.heap.objs.size + 1) R)
      { s with heap := (s.heap.push PySem.W.emptyDict).push (PySem.W.instObj C s.heap.objs.size) }) :
    codeAny (model prog w) A (.call (.ref C) ⟨[], []⟩) R s := by
  obtain ⟨hh, g, d, t, os⟩ := s
  exact PySem.W.make_core (PySem.W.makes_of X hm) (PySem.W.looks_findIn X hi) hb (.inr ⟨rfl, rfl⟩) h
end

/-! ### the attributes as a list of pairs -/
def putF (f : Str) (v : V) : List (Str × V) → List (Str × V)
  | [] => [(f, v)]
  | (g, x) :: r => if g = f then (g, v) :: r else (g, x) :: putF f v r
theorem lookup_putF (f g : Str) (v : V) : ∀ fs : List (Str × V), (putF f v fs).lookup g = if g = f then some v else fs.lookup g
  | [] => by
    show List.lookup g [(f, v)] = _
    by_cases h : g = f
    · have hb : (g == f) = true := beq_iff_eq.mpr h
      simp only [List.lookup, hb, if_pos h]
    · have hb : (g == f) = false := beq_eq_false_iff_ne.mpr h
      simp only [List.lookup, hb, if_neg h]
  | (k, x) :: r => by
    have ih := lookup_putF f g v r
    rw [show putF f v ((k, x) :: r) = (if k = f then (k, v) :: r else (k, x) :: putF f v r) from rfl]
    by_cases hk : k = f
    · rw [if_pos hk]
      by_cases h : g = k
      · have hb : (g == k) = true := beq_iff_eq.mpr h
        simp only [List.lookup, hb, if_pos (h.trans hk)]
      · have hb : (g == k) = false := beq_eq_false_iff_ne.mpr h
        simp only [List.lookup, hb, if_neg (fun e : g = f => h (e.trans hk.symm))]
    · rw [if_neg hk]
      by_cases h : g = k
      · have hb : (g == k) = true := beq_iff_eq.mpr h
        simp only [List.lookup, hb, if_neg (fun e : g = f => hk (h.symm.trans e))]
      · have hb : (g == k) = false := beq_eq_false_iff_ne.mpr h
        simp only [List.lookup, hb]
        exact ih
theorem keys_putF (f : Str) (v : V) : ∀ fs : List (Str × V), f ∈ (putF f v fs).map (·.1) ∧ ∀ g, g ∈ fs.map (·.1) → g ∈ (putF f v fs).map (·.1)
  | [] => ⟨by simp [putF], fun g h => by simp at h⟩
  | (k, x) :: r => by
    obtain ⟨i1, i2⟩ := keys_putF f v r
    rw [show putF f v ((k, x) :: r) = (if k = f then (k, v) :: r else (k, x) :: putF f v r) from rfl]
    by_cases hk : k = f
    · rw [if_pos hk]
      subst hk
      exact ⟨by simp, fun g h => by simpa using h⟩
    · rw [if_neg hk]
      refine ⟨?_, fun g h => ?_⟩
      · rw [List.map_cons]
        exact List.mem_cons_of_mem _ i1
      · rw [List.map_cons] at h ⊢
        rcases List.mem_cons.mp h with e | e
        · exact List.mem_cons.mpr (.inl e)
        · exact List.mem_cons_of_mem _ (i2 g e)
theorem length_putF (f : Str) (v : V) : ∀ fs : List (Str × V), (putF f v fs).length ≤ fs.length + 1
  | [] => by simp [putF]
  | (k, x) :: r => by
    have ih := length_putF f v r
    rw [show putF f v ((k, x) :: r) = (if k = f then (k, v) :: r else (k, x) :: putF f v r) from rfl]
    by_cases hk : k = f
    · rw [if_pos hk, List.length_cons, List.length_cons]; omega
    · rw [if_neg hk, List.length_cons, List.length_cons]; omega

theorem RelO.some_of {v : V} {o : Option Value} (r : RelO (some v) o) : ∃ u, o = some u ∧ RelV v u := by
  cases o with
  | none => exact (show False from r).elim
  | some u => exact ⟨u, rfl, r⟩
theorem RelO.none_of {o : Option Value} (r : RelO none o) : o = none := by
  cases o with
  | none => rfl
  | some u => exact (show False from r).elim
theorem handed_of {v : V} {u : Value} (r : RelV v u) : PySem.W.handedIn u = true := by
  cases v with
  | non => cases (show u = Value.none from r); rfl
  | bl b => cases (show u = Value.bool b from r); rfl
  | int i => obtain ⟨t, e⟩ := (show ∃ t, u = Value.int i t from r); cases e; rfl
  | str x => obtain ⟨t, e⟩ := (show ∃ t, u = Value.str x t from r); cases e; rfl
  | byt b => obtain ⟨t, e⟩ := (show ∃ t, u = Value.bytes b t from r); cases e; rfl
  | flt b => obtain ⟨t, e⟩ := (show ∃ t, u = Value.float b t from r); cases e; rfl
  | ref a => cases (show u = Value.ref a from r); rfl
  | ty n => cases (show u = Value.type n from r); rfl

section
variable {P : Program} {w : World} {H H' : Hp} {h h' : Heap} {a C dx : Addr} {fs fs' : List (Str × V)}
theorem ins_get (hok : HOk P w H h) (e : H a = some (.ins C dx fs)) : ∃ mA, ObjM h a dx C mA ∧ (∀ f, RelO (fs.lookup f) (mA f)) ∧ PySem.Within mA (fs.map (·.1)) ∧ fs.length ≤ 1000 ∧ H dx = some (.own a) := by
  obtain ⟨d, z, ne, ob, mA, n, r, q⟩ := (show ObjOk P w H h a (.ins C dx fs) from hok a _ e)
  exact ⟨mA, ⟨ob, n, ne⟩, r, q, z, d⟩
end

/-! ### what of the text a class must have -/
structure Cls (K : PySem.W.Frag) (C : Addr) : Prop where
  pg : PySem.W.plainGet K C Str.empty = true
  hd : PySem.W.hasDictIn K C = true
  po : PySem.W.plainOver K C = true
  sa : PySem.W.findIn K (.ref C) "__setattr__" = some (some (.builtin "object.__setattr__"))
theorem Cls.get {K : PySem.W.Frag} {C : Addr} (c : Cls K C) (f : Str) : PySem.W.plainGet K C f = true := c.pg
/-- no class of it has the name -/
def NoAttr (K : PySem.W.Frag) (C : Addr) (f : Str) : Prop := PySem.W.findIn K (.ref C) f = some none
theorem NoAttr.taker {K : PySem.W.Frag} {C : Addr} {f : Str} (n : NoAttr K C f) : PySem.W.takerIn K C f = some none := by
  unfold PySem.W.takerIn
  rw [show PySem.W.findIn K (.ref C) f = some none from n]
  rfl
/-- a constant of the class -/
structure Con (K : PySem.W.Frag) (C : Addr) (f : Str) (v : V) (u : Value) : Prop where
  at_ : PySem.W.findIn K (.ref C) f = some (some u)
  rel : RelV v u
  get : PySem.W.specialIn K u "__get__" = some none
  cp : PySem.W.copiedNames.contains f = false
/-- a method: a plain def of the class or of one above it -/
structure Meth (K : PySem.W.Frag) (C : Addr) (m : Str) (f : Addr) : Prop where
  at_ : PySem.W.findIn K (.ref C) m = some (some (.ref f))
  fn : PySem.W.isFn K (.ref f) = true
  kp : PySem.W.keepIn K (.ref f) = true

section
variable {X : Cx} {pins : List (Addr × Obj)} {σ : St} {H : Hp} {s : Shared} {a C dx : Addr} {fs : List (Str × V)} {f : Str} {v : V} {A : Around} {E : Value → Shared → Prop}

theorem getattr_ok {b : Bool} {Q : Value → Shared → Prop} (I : Inv X pins σ H s) (e : H a = some (.ins C dx fs)) (c : Cls X.K C) (n : NoAttr X.K C f) (l : fs.lookup f = some v)
    (h : ∀ u s', Inv X pins σ H s' → RelV v u → Q u s') : wpAny (model X.prog X.w) A (getAttr (.ref a) f b) Q E s := by
  obtain ⟨mA, O, r, _, _, _⟩ := ins_get I.hok e
  obtain ⟨u, hu, ru⟩ := RelO.some_of (v := v) (o := mA f) (by rw [← l]; exact r f)
  exact get_map I.kIn O (c.get f) c.hd n hu (handed_of ru) (h u _ (I.tok _) ru)

theorem getcon_ok {b : Bool} {u : Value} {Q : Value → Shared → Prop} (I : Inv X pins σ H s) (e : H a = some (.ins C dx fs)) (c : Cls X.K C) (k : Con X.K C f v u) (l : fs.lookup f = none)
    (h : ∀ s', Inv X pins σ H s' → Q u s') : wpAny (model X.prog X.w) A (getAttr (.ref a) f b) Q E s := by
  obtain ⟨mA, O, r, _, _, _⟩ := ins_get I.hok e
  have hn : mA f = none := RelO.none_of (by rw [← l]; exact r f)
  exact get_const I.kIn O (c.get f) c.hd k.at_ k.get k.cp hn (handed_of k.rel) (h _ (I.tok _))

theorem getmeth_ok {m : Str} {g : Addr} {pl : Sem Bool} {Q : Value × List Value → Shared → Prop} (I : Inv X pins σ H s) (e : H a = some (.ins C dx fs)) (c : Cls X.K C) (k : Meth X.K C m g) (l : fs.lookup m = none)
    (h : Q (.ref g, [.ref a]) s) : wpAny (model X.prog X.w) A (getMethod (.ref a) m pl) Q E s := by
  obtain ⟨mA, O, r, _, _, _⟩ := ins_get I.hok e
  have hn : mA m = none := RelO.none_of (by rw [← l]; exact r m)
  exact get_meth I.kIn O (c.get m) k.at_ k.fn hn h

theorem setattr_ok {y : V} {u : Value} {Q : Unit → Shared → Prop} (I : Inv X pins σ H s) (e : H a = some (.ins C dx fs)) (c : Cls X.K C) (n : NoAttr X.K C f) (hl : fs.length < 1000) (ry : RelV y u)
    (h : ∀ s', Inv X pins σ (upd H a (.ins C dx (putF f y fs))) s' → Q () s') : wpAny (model X.prog X.w) A (setAttr (.ref a) f u) Q E s := by
  obtain ⟨mA, O, r, wi, _, ho⟩ := ins_get I.hok e
  have hz : (fs.map (·.1)).length ≤ sizeLine := by rw [List.length_map, sizeLine_eq]; omega
  refine set_map I.kIn O c.sa c.po n.taker c.hd wi hz fun h' O' sb => h _ ?_
  have hd : ∃ o, h'.get? dx = some o := let ⟨o, _, _, e', _⟩ := O'.ns; ⟨o, e'⟩
  refine I.write (x := a) (e := dx) (by rw [e]; exact True.intro) (.inr ho) (fun b q hb z => (sb.2 b hb).trans z) hd ?_
  refine ⟨by rw [upd_ne O.ne]; exact ho, ?_, O.ne, O'.obj, _, O'.ns, fun g => ?_, fun g hg => ?_⟩
  · have := length_putF f y fs; omega
  · show RelO ((putF f y fs).lookup g) (if g = f then some u else mA g)
    rw [lookup_putF]
    by_cases q : g = f
    · rw [if_pos q, if_pos q]; exact ry
    · rw [if_neg q, if_neg q]; exact r g
  · by_cases q : g = f
    · rw [q]; exact (keys_putF f y fs).1
    · refine (keys_putF f y fs).2 g (wi g fun z => hg ?_)
      show (if g = f then some u else mA g) = none
      rw [if_neg q]; exact z

/-- a new instance, tracked, without attributes -/
theorem Inv.made (I : Inv X pins σ H s) : Inv X pins σ (upd (upd H s.heap.objs.size (.own (s.heap.objs.size + 1))) (s.heap.objs.size + 1) (.ins C s.heap.objs.size []))
    { s with heap := (s.heap.push PySem.W.emptyDict).push (PySem.W.instObj C s.heap.objs.size) } := by
  have e1 : (s.heap.push PySem.W.emptyDict).get? s.heap.objs.size = some PySem.W.emptyDict := Heap.get?_push_size s.heap rfl
  have e2 : ((s.heap.push PySem.W.emptyDict).push (PySem.W.instObj C s.heap.objs.size)).get? (s.heap.objs.size + 1) = some (PySem.W.instObj C s.heap.objs.size) := by
    have := Heap.get?_push_size (s.heap.push PySem.W.emptyDict) (o := PySem.W.instObj C s.heap.objs.size) rfl
    rwa [Heap.size_push] at this
  have e3 : (s.heap.push PySem.W.emptyDict).Ns s.heap.objs.size (fun _ => none) := ⟨PySem.W.emptyDict, #[], _, e1, rfl, (fun e he => absurd he (by simp)), fun _ => rfl⟩
  have I1 := I.laid (a := s.heap.objs.size) (o := .own (s.heap.objs.size + 1)) (h' := s.heap.push PySem.W.emptyDict) (t' := s.toks) (fun b u q => Heap.get?_push_of_some _ q) (Nat.le_refl _) ⟨_, e1⟩
  refine I1.laid (a := s.heap.objs.size + 1) (o := .ins C s.heap.objs.size []) (t' := s.toks) (fun b u q => Heap.get?_push_of_some _ q) (Nat.le_of_eq (Heap.size_push _ _)) ?_
  have ne : s.heap.objs.size ≠ s.heap.objs.size + 1 := Nat.ne_of_lt (Nat.lt_succ_self _)
  refine ⟨by rw [upd_ne ne, upd_same], Nat.zero_le _, ne, e2, fun _ => none, (Heap.Ns1.of_empty e3).at fun o q => Heap.get?_push_of_some _ q, fun _ => True.intro, fun y hy => absurd rfl hy⟩

/-- e.f where nothing but the object is asked: through attributeBase (super) and the last hold -/
theorem attr_of {prog : Program} {w : World} {env : Env} {e : Expr} {f : Str} {pos : Pos} {s : Shared} {Q : Value → Shared → Prop} (hb : attributeBase e f env (eval e env) = eval e env)
    (h : wpAny (model prog w) A (eval e env) (fun o s₁ => wpAny (model prog w) A (getAttr o f true) Q E s₁) E s) : wpAny (model prog w) A (eval (.Attribute e f pos) env) Q E s :=
  Attribute_any_ h (by rw [arm_eval_Attribute, hb])
end

/-! ### readings and rules -/
/-- e.f, an attribute of the instance -/
def tFld (K : PySem.W.Frag) (ta : TE) (f : Str) : TE := fun σ H Q => ta σ H fun x H1 => ∃ a C dx fs v, x = .ref a ∧ H1 a = some (.ins C dx fs) ∧ Cls K C ∧ NoAttr K C f ∧ fs.lookup f = some v ∧ Q v H1
/-- e.f, a constant of the class -/
def tCon (K : PySem.W.Frag) (ta : TE) (f : Str) : TE := fun σ H Q => ta σ H fun x H1 => ∃ a C dx fs v u, x = .ref a ∧ H1 a = some (.ins C dx fs) ∧ Cls K C ∧ Con K C f v u ∧ fs.lookup f = none ∧ Q v H1
/-- e.f = value -/
def sFld (K : PySem.W.Frag) (ta tv : TE) (f : Str) : TS := fun D σ H => tv σ H fun y H1 => ta σ H1 fun x H2 => ∃ a C dx fs, x = .ref a ∧ H2 a = some (.ins C dx fs) ∧ Cls K C ∧ NoAttr K C f ∧ fs.length < 1000 ∧
  D.nx σ (upd H2 a (.ins C dx (putF f y fs)))
/-- an augmented operator on two values -/
def InOp (X : Cx) (op : Operator) (rd : V → V → Hp → VK → Prop) : Prop :=
  ∀ (pins : List (Addr × Obj)) (s : Shared) (σ : St) (H : Hp) (x y : V) (u v : Value) (Q : VK), Inv X pins σ H s → RelV x u → RelV y v → rd x y H Q → wpAny (model X.prog X.w) X.A (inplaceOp op u v) (EP X pins σ Q) X.xe s
/-- e.f op= value -/
def sFldAug (K : PySem.W.Frag) (ta tv : TE) (rd : V → V → Hp → VK → Prop) (f : Str) : TS := fun D σ H => ta σ H fun x H1 => ∃ a C dx fs v, x = .ref a ∧ H1 a = some (.ins C dx fs) ∧ Cls K C ∧ NoAttr K C f ∧ fs.lookup f = some v ∧
  tv σ H1 fun y H2 => rd v y H2 fun z H3 => ∃ dx' fs', H3 a = some (.ins C dx' fs') ∧ fs'.length < 1000 ∧ D.nx σ (upd H3 a (.ins C dx' (putF f z fs')))

section
variable {X : Cx} {o e value : Expr} {f : Str} {pos pos' tpos : Pos} {ta tv : TE}
theorem pe_fld (he : PE X e ta) (hb : attributeBase e f X.env (eval e X.env) = eval e X.env) : PE X (.Attribute e f pos) (tFld X.K ta f) := by
  intro pins s σ H Q I h
  refine attr_of hb (thn (he pins s σ H _ I h) fun u s1 ⟨x, H1, I1, rx, a, C, dx, fs, v, ex, ea, c, n, l, q⟩ => ?_)
  subst ex
  obtain rfl : u = Value.ref a := rx
  exact getattr_ok I1 ea c n l fun u' s2 I2 ru => ⟨v, H1, I2, ru, q⟩
theorem pe_con (he : PE X e ta) (hb : attributeBase e f X.env (eval e X.env) = eval e X.env) : PE X (.Attribute e f pos) (tCon X.K ta f) := by
  intro pins s σ H Q I h
  refine attr_of hb (thn (he pins s σ H _ I h) fun u s1 ⟨x, H1, I1, rx, a, C, dx, fs, v, u0, ex, ea, c, k, l, q⟩ => ?_)
  subst ex
  obtain rfl : u = Value.ref a := rx
  exact getcon_ok I1 ea c k l fun s2 I2 => ⟨v, H1, I2, k.rel, q⟩
theorem ps_fld (ha : PE X o ta) (hv : PE X value tv) (hs : swapsWith value (some (.Attribute o f pos')) pos.line X.env = pure false) : PS X (.Assign [.Attribute o f pos'] value pos) (sFld X.K ta tv f) := by
  intro pins s σ H D I h
  refine plainObj_wpAny_Assign_Attribute (thn (hv pins s σ H _ I h) fun u s1 ⟨y, H1, I1, ry, q⟩ => thn (ha pins s1 σ H1 _ I1 q) fun ov s2 ⟨x, H2, I2, rx, a, C, dx, fs, ex, ea, c, n, l, q2⟩ => ?_) hs
  subst ex
  obtain rfl : ov = Value.ref a := rx
  exact setattr_ok I2 ea c n l ry fun s3 I3 => ⟨σ, _, I3, q2⟩
theorem ps_fldaug {op : Operator} {rd : V → V → Hp → VK → Prop} (ha : PE X o ta) (hv : PE X value tv) (hop : InOp X op rd) : PS X (.AugAssign (.Attribute o f tpos) op value pos) (sFldAug X.K ta tv rd f) := by
  intro pins s σ H D I h
  refine wpAny_AugAssign_AttributeAny (thn (ha pins s σ H _ I h) fun ov s1 ⟨x, H1, I1, rx, a, C, dx, fs, v, ex, ea, c, n, l, q⟩ => ?_)
  subst ex
  obtain rfl : ov = Value.ref a := rx
  refine getattr_ok I1 ea c n l fun u s2 I2 ru => thn (hv pins s2 σ H1 _ I2 q) fun w3 s3 ⟨y, H2, I3, ry, q3⟩ => thn (hop pins s3 σ H2 v y u w3 _ I3 ru ry q3) fun w4 s4 ⟨z, H3, I4, rz, dx', fs', ea', l', q4⟩ => ?_
  exact setattr_ok I4 ea' c n l' rz fun s5 I5 => ⟨σ, _, I5, q4⟩
def rAdd : V → V → Hp → VK → Prop := fun x y H Q => ∃ i j, x = .int i ∧ y = .int j ∧ Q (.int (i + j)) H
def rSub : V → V → Hp → VK → Prop := fun x y H Q => ∃ i j, x = .int i ∧ y = .int j ∧ Q (.int (i - j)) H
theorem in_add : InOp X .Add rAdd := by
  rintro pins s σ H x y u v Q I rx ry ⟨i, j, rfl, rfl, q⟩
  obtain ⟨t, rfl⟩ := (show ∃ t, u = Value.int i t from rx)
  obtain ⟨t', rfl⟩ := (show ∃ t', v = Value.int j t' from ry)
  exact PyProof.Rows.iadd_int ⟨.int (i + j), H, I.tok _, ⟨_, rfl⟩, q⟩
theorem in_sub : InOp X .Sub rSub := by
  rintro pins s σ H x y u v Q I rx ry ⟨i, j, rfl, rfl, q⟩
  obtain ⟨t, rfl⟩ := (show ∃ t, u = Value.int i t from rx)
  obtain ⟨t', rfl⟩ := (show ∃ t', v = Value.int j t' from ry)
  exact PyProof.Rows.isub_int ⟨.int (i - j), H, I.tok _, ⟨_, rfl⟩, q⟩

/-- what is between an instance and its method: the tree of a method call -/
theorem methcall_of {pl : Sem Bool} {m : Str} {apos : Pos} {args : List Expr} {pins : List (Addr × Obj)} {s : Shared} {σ : St} {H : Hp} {Q : Value → Shared → Prop} {te : TE} (he : PE X e te) (I : Inv X pins σ H s)
    (h : te σ H fun x H1 => ∃ a C dx fs g, x = .ref a ∧ H1 a = some (.ins C dx fs) ∧ Cls X.K C ∧ Meth X.K C m g ∧ fs.lookup m = none ∧
      ∀ s1, Inv X pins σ H1 s1 → wpAny (model X.prog X.w) X.A (callWith pos (.ref g) [.ref a] (backTo pos (starEach args X.env)) (backToKw pos (keywordEach [] X.env))) Q X.xe s1)
    (ht : eval (.Call (.Attribute e m apos) args [] pos) X.env = (do
      let ov ← eval e X.env
      standAt apos.atName
      let (f, first) ← holding [ov] (getMethod ov m pl)
      callWith pos f first (backTo pos (starEach args X.env)) (backToKw pos (keywordEach [] X.env)))) :
    wpAny (model X.prog X.w) X.A (eval (.Call (.Attribute e m apos) args [] pos) X.env) Q X.xe s := by
  refine PySem.W.methodCall_KW (pl := pl) (thn (he pins s σ H _ I h) fun u s1 ⟨x, H1, I1, rx, a, C, dx, fs, g, ex, ea, c, k, l, q⟩ => ?_) ht
  subst ex
  obtain rfl : u = Value.ref a := rx
  exact getmeth_ok I1 ea c k l (q s1 I1)
end

/-! ### isinstance -/
section
variable {X : Cx} {pins : List (Addr × Obj)} {σ : St} {H : Hp} {s : Shared} {A : Around} {E : Value → Shared → Prop} {Q : Value → Shared → Prop} {c : Value} {b : Bool}
/-- the type of a value, as the fragment's deciders take it; for an instance its class -/
inductive TyOf (K : PySem.W.Frag) (H : Hp) : V → Value → Prop where
  | non : TyOf K H .non (.type "NoneType")
  | bl (x : Bool) : TyOf K H (.bl x) (.type "bool")
  | int (i : Int) : TyOf K H (.int i) (.type "int")
  | str (x : Str) : TyOf K H (.str x) (.type "str")
  | flt (x : UInt64) : TyOf K H (.flt x) (.type "float")
  | lst {a : Addr} {xs : List V} (e : H a = some (.lst xs)) : TyOf K H (.ref a) (.type "list")
  | frz {a : Addr} {o : Obj} {xs : List V} (e : H a = some (.frz o (.lst xs))) : TyOf K H (.ref a) (.type "list")
  | tup {a : Addr} {xs : List V} (e : H a = some (.tup xs)) : TyOf K H (.ref a) (.type "tuple")
  | dK {a : Addr} {kvs : List (Key × V)} (e : H a = some (.dK kvs)) : TyOf K H (.ref a) (.type "dict")
  | dT {a : Addr} {kvs : List (List Key × V)} (e : H a = some (.dT kvs)) : TyOf K H (.ref a) (.type "dict")
  | ins {a C dx : Addr} {fs : List (Str × V)} (e : H a = some (.ins C dx fs)) (cl : Cls K C) (ha : PySem.W.findIn K (.ref C) "__class__" = some (some (.builtin "object.__class__")))
      (hn : PySem.W.specialIn K (.builtin "object.__class__") "__get__" = some (some (.builtin "getset_descriptor.__get__"))) (htk : PySem.W.takesIn K (.builtin "object.__class__") = some true)
      (hm : PySem.W.mroIn K C (.type "object") = some true) : TyOf K H (.ref a) (.ref C)
/-- isinstance(x, c) for one class c, a built-in or an own one: kitOne's answer -/
theorem isinst_ok {x : V} {u t : Value} (I : Inv X pins σ H s) (rx : RelV x u) (ty : TyOf X.K H x t) (e : PySem.W.kitOne X.K t c = some b) (h : ∀ tk, Q (.bool b) { s with toks := tk }) :
    wpAny (model X.prog X.w) A (call (.builtin "isinstance") [u, c]) Q E s := by
  cases ty with
  | non => cases (show u = Value.none from rx); exact PySem.W.kia_one PySem.W.kitx_none I.kIn True.intro e (fun z => nomatch z) h
  | bl y => cases (show u = Value.bool y from rx); exact PySem.W.kia_one PySem.W.kitx_bool I.kIn True.intro e (fun z => nomatch z) h
  | int i => obtain ⟨t, q⟩ := (show ∃ t, u = Value.int i t from rx); cases q; exact PySem.W.kia_one PySem.W.kitx_int I.kIn True.intro e (fun z => nomatch z) h
  | str y => obtain ⟨t, q⟩ := (show ∃ t, u = Value.str y t from rx); cases q; exact PySem.W.kia_one PySem.W.kitx_str I.kIn True.intro e (fun z => nomatch z) h
  | flt y => obtain ⟨t, q⟩ := (show ∃ t, u = Value.float y t from rx); cases q; exact PySem.W.kia_one PySem.W.kitx_float I.kIn True.intro e (fun z => nomatch z) h
  | @lst a xs ea =>
    cases (show u = Value.ref a from rx)
    obtain ⟨_, _, n, _, h1⟩ := (show ObjOk X.prog X.w H s.heap a (.lst xs) from I.hok a _ ea)
    exact PySem.W.kia_one PySem.W.kitx_list I.kIn ⟨_, h1, rfl⟩ e (fun z => nomatch z) h
  | @frz a ob xs ea =>
    cases (show u = Value.ref a from rx)
    obtain ⟨_, _, _, n, _, h1⟩ := (show ObjOk X.prog X.w H s.heap a (.frz ob (.lst xs)) from I.hok a _ ea)
    exact PySem.W.kia_one PySem.W.kitx_list I.kIn ⟨_, h1, rfl⟩ e (fun z => nomatch z) h
  | @tup a xs ea =>
    cases (show u = Value.ref a from rx)
    obtain ⟨_, _, _, p⟩ := (show ObjOk X.prog X.w H s.heap a (.tup xs) from I.hok a _ ea)
    obtain ⟨o, h1, h2, _⟩ := p
    exact PySem.W.kia_one PySem.W.kitx_tuple I.kIn ⟨o, h1, h2⟩ e (fun z => nomatch z) h
  | @dK a kvs ea =>
    cases (show u = Value.ref a from rx)
    obtain ⟨_, _, vs, _, p⟩ := (show ObjOk X.prog X.w H s.heap a (.dK kvs) from I.hok a _ ea)
    obtain ⟨o, es, ep, h1, h2, _⟩ := p
    exact PySem.W.kia_one PySem.W.kitx_dict I.kIn ⟨o, h1, h2.1⟩ e (fun z => nomatch z) h
  | @dT a kvs ea =>
    cases (show u = Value.ref a from rx)
    obtain ⟨_, _, xs, _, o, es, ep, h1, h2, _⟩ := (show ObjOk X.prog X.w H s.heap a (.dT kvs) from I.hok a _ ea)
    exact PySem.W.kia_one PySem.W.kitx_dict I.kIn ⟨o, h1, h2.1⟩ e (fun z => nomatch z) h
  | @ins a C dx fs ea cl ha hn htk hm =>
    cases (show u = Value.ref a from rx)
    obtain ⟨mA, O, _⟩ := ins_get I.hok ea
    obtain ⟨od, J, _⟩ := O.look
    exact PySem.W.kia_one (PySem.W.kitx_own (cl.get _) cl.hd ha hn htk hm) I.kIn J e (fun z => nomatch z) h
end
end L2

namespace L2
open PySem PySem.Spec PyProof.Rows

/-! ### room -/
structure Room (k : Nat) (A : Around) : Prop where
  hd : A.handled = none
  dp : A.depth + 3 * k + 5 < recursionLimit
  un : A.units + 16 * k + 200 < cLine
theorem Room.mono {j k : Nat} {A : Around} (r : Room k A) (h : j ≤ k) : Room j A := ⟨r.hd, by have := r.dp; omega, by have := r.un; omega⟩
theorem Room.deeper {k : Nat} {A : Around} (r : Room (k + 1) A) (env : Env) : Room k (A.deeper env) :=
  ⟨r.hd, by have := r.dp; show A.depth + 1 + 3 * k + 5 < _; omega, by have := r.un; show A.units + 3 + 16 * k + 200 < _; omega⟩
theorem Room.in1 {k : Nat} {A : Around} (r : Room (k + 1) A) : Room k A.in1 :=
  ⟨r.hd, by have := r.dp; show A.depth + 3 * k + 5 < _; omega, by have := r.un; show A.units + 1 + 16 * k + 200 < _; omega⟩
theorem make_depth {A : Around} {C : Addr} {us : List Value} {kw : List (Str × Value)} : (A.under (.builtin "type.__call__" ⟨.ref C :: us, kw⟩)).depth = A.depth + 1 := by
  first | rfl | simp [Around.under, Code.weight, Code.isCreation, Code.isGuard, Code.isCaller, Code.frames, Code.isFrame, guardIds]
theorem make_units {A : Around} {C : Addr} {us : List Value} {kw : List (Str × Value)} : (A.under (.builtin "type.__call__" ⟨.ref C :: us, kw⟩)).units = A.units + 1 := by
  first | rfl | simp [Around.under, Code.cUnits, Code.frames, Code.isFrame]
theorem Room.make {k : Nat} {A : Around} (r : Room (k + 1) A) (C : Addr) (us : List Value) (kw : List (Str × Value)) : Room k (A.under (.builtin "type.__call__" ⟨.ref C :: us, kw⟩)) :=
  ⟨r.hd, by have := r.dp; rw [make_depth]; omega, by have := r.un; rw [make_units]; omega⟩
theorem Room.depth {k : Nat} {A : Around} (r : Room k A) : A.depth < recursionLimit := by have := r.dp; omega
theorem Room.units {k : Nat} {A : Around} (r : Room k A) : A.units + 64 < cLine := by have := r.un; omega
theorem Room.units0 {k : Nat} {A : Around} (r : Room k A) : A.units < cLine := by have := r.un; omega

/-! ### argument lists and displays -/
def tNil : TA := fun _ H Q => Q [] H
def tCons (ta : TE) (tr : TA) : TA := fun σ H Q => ta σ H fun x H1 => tr σ H1 fun xs H2 => Q (x :: xs) H2
section
variable {X : Cx} {e : Expr} {es : List Expr} {te : TE} {t : TA} {pos : Pos}
theorem pa_nil : PA X [] tNil := fun _ _ _ _ H Q I h => Calls.spliced_nil ⟨[], H, I, .nil, h⟩
theorem pa_cons (ha : PE X e te) (hr : PA X es t) (hs : starEach (e :: es) X.env = (false, eval e X.env) :: starEach es X.env := by rfl) : PA X (e :: es) (tCons te t) := by
  intro pos pins s σ H Q I h
  rw [hs]
  show wpAny _ _ (spliced ((false, eval e X.env) :: backTo pos (starEach es X.env))) _ _ s
  refine Calls.spliced_cons (thn (ha pins s σ H _ I h) fun u s1 ⟨x, H1, I1, r1, q1⟩ => ?_)
  exact thn (hr pos pins s1 σ H1 _ I1 q1) fun us s2 ⟨xs, H2, I2, r2, q2⟩ => ⟨x :: xs, H2, I2, .cons r1 r2, q2⟩

/-- a tuple, a list of written items -/
def tTup (t : TA) : TE := fun σ H Q => t σ H fun xs H1 => xs.length ≤ sizeLine ∧ ∀ p, H1 p = none → Q (.ref p) (upd H1 p (.tup xs))
def tLst (t : TA) : TE := fun σ H Q => t σ H fun xs H1 => xs.length ≤ sizeLine ∧ ∀ p, H1 p = none → Q (.ref p) (upd H1 p (.lst xs))
theorem pe_tup {x1} (h : PA X es t) : PE X (.Tuple es x1 pos) (tTup t) := by
  intro pins s σ H Q I hq
  refine wpAny_Tuple_spliced (thn (h pos pins s σ H _ I hq) fun us s1 ⟨xs, H1, I1, r, z, q⟩ => ⟨by rw [← r.length]; exact z, ?_⟩)
  have hf : H1 s1.heap.objs.size = none := I1.hok.fresh (Nat.le_refl _)
  refine ⟨.ref s1.heap.objs.size, upd H1 s1.heap.objs.size (.tup xs), I1.laid (t' := s1.toks) (fun b u e => Heap.get?_push_of_some _ e) (Nat.le_refl _) ?_, rfl, q _ hf⟩
  exact ⟨z, us, r, ⟨_, Heap.get?_push_size _ rfl, rfl, _, rfl⟩⟩
theorem pe_lst (h : PA X es t) : PE X (.List es pos) (tLst t) := by
  intro pins s σ H Q I hq
  refine wpAny_List_spliced (thn (h pos pins s σ H _ I hq) fun us s1 ⟨xs, H1, I1, r, z, q⟩ => ⟨by rw [← r.length]; exact z, ?_⟩)
  have hf : H1 s1.heap.objs.size = none := I1.hok.fresh (Nat.le_refl _)
  refine ⟨.ref s1.heap.objs.size, upd H1 s1.heap.objs.size (.lst xs), I1.laid (t' := s1.toks) (fun b u e => Heap.get?_push_of_some _ e) (Nat.le_refl _) ?_, rfl, q _ hf⟩
  exact ⟨z, us, 0, r, Heap.get?_push_size _ rfl⟩
end

/-! ### what a def promises -/
/-- a def's promise: the bound arguments in the parameters' order, the heap, the wanted end, the wanted exception -/
abbrev Sp := List V → Hp → VK → XK → Prop
/-- how an exception lies behind a call (file 08 gives it): the callers' frames, abstract heap and state ahead of the call, the wish, the exception, the state -/
abbrev CXT := List Env → Hp → Shared → XK → Value → Shared → Prop

/-- the state at a call -/
structure Env0 (P : Program) (w : World) (K : PySem.W.Frag) (mg : Str → Option Value) (base : Heap) (A : Around) (outer : List Env) (s : Shared) (H : Hp) : Prop where
  frames : A.frames = some outer
  mod : Mod K mg base
  bs : ∀ b o, base.get? b = some o → s.heap.get? b = some o ∧ H b = none
  bsz : base.objs.size ≤ s.heap.objs.size
  funs : s.heap.FunFrames base outer
  frf : ∀ b ∈ frs outer, H b = none
  hok : HOk P w H s.heap
  bare : AllBare s.gens
/-- a call's end -/
def CE (outer : List Env) (P : Program) (w : World) (H : Hp) (s : Shared) (Q : VK) (u : Value) (s' : Shared) : Prop :=
  ∃ v H', s'.os = s.os ∧ AllBare s'.gens ∧ Un (frs outer) [] H H' s.heap s'.heap ∧ HOk P w H' s'.heap ∧ RelV v u ∧ Q v H'
def CR (CX : CXT) (outer : List Env) (P : Program) (w : World) (H : Hp) (s : Shared) (Q : VK) (E : XK) (r : Result) (s' : Shared) : Prop :=
  match r with
  | .ok (.ret u) => CE outer P w H s Q u s'
  | .ok _ => False
  | .error e => CX outer H s E e s'
structure FnOk (P : Program) (w : World) (K : PySem.W.Frag) (mg : Str → Option Value) (base : Heap) (CX : CXT) (k : Nat) (f : Addr) (fd : FuncData) (ps : List Str) (sp : Sp) : Prop where
  len : ∀ vs H Q E, sp vs H Q E → vs.length = ps.length
  run : ∀ (A : Around) (outer : List Env) (s : Shared) (H : Hp) (args : Args) (us : List Value) (vs : List V) (Q : VK) (E : XK), Room k A → Env0 P w K mg base A outer s H → BindsTo s fd args (ps.zip us) → Vals vs us → sp vs H Q E →
    codeAny (model P w) A (.call (.ref f) args) (CR CX outer P w H s Q E) s
theorem FnOk.mono {P : Program} {w : World} {K : PySem.W.Frag} {mg : Str → Option Value} {base : Heap} {CX : CXT} {j k : Nat} {f : Addr} {fd : FuncData} {ps : List Str} {sp : Sp} (F : FnOk P w K mg base CX j f fd ps sp) (h : j ≤ k) :
    FnOk P w K mg base CX k f fd ps sp := ⟨F.len, fun A outer s H args us vs Q E hr => F.run A outer s H args us vs Q E (hr.mono h)⟩
/-- a weaker promise -/
theorem FnOk.imp {P : Program} {w : World} {K : PySem.W.Frag} {mg : Str → Option Value} {base : Heap} {CX : CXT} {k : Nat} {f : Addr} {fd : FuncData} {ps : List Str} {sp sp' : Sp} (F : FnOk P w K mg base CX k f fd ps sp)
    (h : ∀ vs H Q E, sp' vs H Q E → sp vs H Q E) : FnOk P w K mg base CX k f fd ps sp' :=
  ⟨fun vs H Q E q => F.len vs H Q E (h _ _ _ _ q), fun A outer s H args us vs Q E hr he hb hv hs => F.run A outer s H args us vs Q E hr he hb hv (h _ _ _ _ hs)⟩

theorem Env0.make {P : Program} {w : World} {K : PySem.W.Frag} {mg : Str → Option Value} {base : Heap} {A : Around} {outer : List Env} {s : Shared} {H : Hp} (e : Env0 P w K mg base A outer s H) (C : Addr) (us : List Value) (kw : List (Str × Value)) :
    Env0 P w K mg base (A.under (.builtin "type.__call__" ⟨.ref C :: us, kw⟩)) outer s H := ⟨by first | exact e.frames | (simpa [Around.under, Code.envs, Code.isFrame, pushEnvs] using e.frames), e.mod, e.bs, e.bsz, e.funs, e.frf, e.hok, e.bare⟩
theorem Env0.in1 {P : Program} {w : World} {K : PySem.W.Frag} {mg : Str → Option Value} {base : Heap} {A : Around} {outer : List Env} {s : Shared} {H : Hp} (e : Env0 P w K mg base A outer s H) :
    Env0 P w K mg base A.in1 outer s H := ⟨e.frames, e.mod, e.bs, e.bsz, e.funs, e.frf, e.hok, e.bare⟩

section
variable {X : Cx} {pins : List (Addr × Obj)} {σ : St} {H : Hp} {s s' : Shared}
/-- from a body: what a callee wants -/
theorem Inv.env0 (I : Inv X pins σ H s) : Env0 X.prog X.w X.K X.mg X.base X.A X.stack s H :=
  ⟨I.ok.frames, I.ok.mod, I.bs, Nat.le_trans I.ok.bsz I.sz, I.stack, I.stkFree, I.hok, I.bare⟩
/-- behind a call -/
theorem Inv.after {Q : VK} {u : Value} (I : Inv X pins σ H s) (h : CE X.stack X.prog X.w H s Q u s') : EP X pins σ Q u s' := by
  obtain ⟨v, H', os, bare, un, hok, r, q⟩ := h
  obtain ⟨hh, g, d, t, os'⟩ := s'
  obtain rfl : os' = s.os := os
  exact ⟨v, H', I.call (h' := hh) (g' := g) (d' := d) (t' := t) (ch := []) un hok bare (fun b z => absurd z (by simp)), r, q⟩
end

/-! ### calls -/
/-- f(..): the written arguments, then the defaults dvs; E: what is wanted of an exception -/
def tCall (sp : Sp) (dvs : List V) (E : XK) (t : TA) : TE := fun σ H Q => t σ H fun vs H1 => sp (vs ++ dvs) H1 Q E
/-- o.m(..) of an instance of the class at C -/
def tMeth (C : Addr) (m : Str) (sp : Sp) (dvs : List V) (E : XK) (ta : TE) (t : TA) : TE := fun σ H Q => ta σ H fun x H1 => ∃ a dx fs, x = .ref a ∧ H1 a = some (.ins C dx fs) ∧ fs.lookup m = none ∧
  t σ H1 fun vs H2 => sp (x :: (vs ++ dvs)) H2 Q E
/-- C(..): a new instance and its dict, then __init__ -/
def tMake (C : Addr) (sp : Sp) (dvs : List V) (E : XK) (t : TA) : TE := fun σ H Q => t σ H fun vs H1 => ∀ x dx, H1 x = none → H1 dx = none → dx ≠ x →
  sp (.ref x :: (vs ++ dvs)) (upd (upd H1 dx (.own x)) x (.ins C dx [])) (fun v H2 => v = .non ∧ Q (.ref x) H2) E

/-- how the parameters are bound: us the positional arguments, kw the keywords' values by name, ds the defaults that fill up -/
def Binds (K : PySem.W.Frag) (fd : FuncData) (ps : List Str) (ds : List Value) : Prop :=
  ∀ (s : Shared) (us : List Value), K.In s.heap → (us ++ ds).length = ps.length → BindsTo s fd ⟨us, []⟩ (ps.zip (us ++ ds))
/-- every parameter is given -/
theorem Binds.all {K : PySem.W.Frag} {fd : FuncData} {ps : List Str} (h : ∀ us : List Value, us.length = ps.length → bindArgs fd ⟨us, []⟩ = pure (ps.zip us)) : Binds K fd ps [] := fun s us _ hl => by
  rw [List.append_nil] at hl ⊢
  exact .of_eq (h us hl)

/-- an exception of a callee reaches what this body wants of exceptions -/
def Passes (CX : CXT) (X : Cx) (E : XK) : Prop := ∀ (pins : List (Addr × Obj)) (σ : St) (H : Hp) (s : Shared) (e : Value) (s' : Shared), Inv X pins σ H s → CX X.stack H s E e s' → X.xe e s'

section
variable {X : Cx} {CX : CXT} {k : Nat} {f C : Addr} {fd : FuncData} {ps : List Str} {sp : Sp} {dvs : List V} {ds : List Value} {E : XK} {x m : Str} {p pos apos : Pos} {e o : Expr} {es : List Expr} {ta : TE} {t : TA}

/-- the callee runs -/
theorem run_fn {pins : List (Addr × Obj)} {σ : St} {H : Hp} {s : Shared} {Q : VK} {us : List Value} {vs : List V} (F : FnOk X.prog X.w X.K X.mg X.base CX k f fd ps sp) (hr : Room k X.A) (hb : Binds X.K fd ps ds) (hd : Vals dvs ds) (hx : Passes CX X E)
    (I : Inv X pins σ H s) (r : Vals vs us) (h : sp (vs ++ dvs) H Q E) : wpAny (model X.prog X.w) X.A (call (.ref f) us) (EP X pins σ Q) X.xe s := by
  have r2 : Vals (vs ++ dvs) (us ++ ds) := r.append hd
  have hl : (us ++ ds).length = ps.length := by rw [← r2.length]; exact F.len _ _ _ _ h
  refine wpAny_call (codeAny_mono (F.run X.A X.stack s H ⟨us, []⟩ (us ++ ds) (vs ++ dvs) Q E hr I.env0 (hb s us I.kIn hl) r2 h) fun r s' hq => ?_)
  cases r with
  | error e => exact hx pins σ H s e s' I hq
  | ok fl =>
    cases fl with
    | ret u => exact I.after hq
    | next => exact False.elim hq
    | brk => exact False.elim hq
    | cont => exact False.elim hq

theorem pe_call (F : FnOk X.prog X.w X.K X.mg X.base CX k f fd ps sp) (hr : Room k X.A) (hg : Gl X x) (hm : X.mg x = some (.ref f)) (hk : PySem.W.keepIn X.K (.ref f) = true) (hb : Binds X.K fd ps ds) (hd : Vals dvs ds) (hx : Passes CX X E)
    (ha : PA X (e :: es) t) (hdb : (x == ("__debug__" : Str)) = false := by decide) (he : starEach (e :: es) X.env = (false, eval e X.env) :: starEach es X.env := by rfl) (hpl : (backTo pos (starEach es X.env)).any (·.1) = false := by rfl) :
    PE X (.Call (.Name x p) (e :: es) [] pos) (tCall sp dvs E t) := by
  intro pins s σ H Q I h
  refine wpAny_Call_Name_kw (ld_glob I hg hm ?_ hdb)
  refine PySem.W.callWith_K (h₀ := X.base) I.ok.mod.kin hk (thn (ha pos pins s σ H _ I h) fun us s1 ⟨vs, H1, I1, r, q⟩ => ⟨I1.kIn, ?_⟩) he hpl
  exact run_fn F hr hb hd hx I1 r q
theorem pe_call0 (F : FnOk X.prog X.w X.K X.mg X.base CX k f fd ps sp) (hr : Room k X.A) (hg : Gl X x) (hm : X.mg x = some (.ref f)) (hk : PySem.W.keepIn X.K (.ref f) = true) (hb : Binds X.K fd ps ds) (hd : Vals dvs ds) (hx : Passes CX X E)
    (hdb : (x == ("__debug__" : Str)) = false := by decide) : PE X (.Call (.Name x p) [] [] pos) (tCall sp dvs E tNil) := by
  intro pins s σ H Q I h
  refine wpAny_Call_Name_kw (ld_glob I hg hm ?_ hdb)
  exact PySem.W.callWith_K0 I.kIn hk (run_fn (us := []) F hr hb hd hx I .nil h)

/-- o.m(e, ..) -/
theorem pe_meth {pl : Sem Bool} (he : PE X o ta) (c : Cls X.K C) (hm : Meth X.K C m f) (F : FnOk X.prog X.w X.K X.mg X.base CX k f fd ps sp) (hr : Room k X.A) (hb : Binds X.K fd ps ds) (hd : Vals dvs ds) (hx : Passes CX X E) (ha : PA X (e :: es) t)
    (hst : starEach (e :: es) X.env = (false, eval e X.env) :: starEach es X.env := by rfl) (hpl : (backTo pos (starEach es X.env)).any (·.1) = false := by rfl)
    (ht : eval (.Call (.Attribute o m apos) (e :: es) [] pos) X.env = (do
      let ov ← eval o X.env
      standAt apos.atName
      let (f, first) ← holding [ov] (getMethod ov m pl)
      callWith pos f first (backTo pos (starEach (e :: es) X.env)) (backToKw pos (keywordEach [] X.env))) := by rfl) :
    PE X (.Call (.Attribute o m apos) (e :: es) [] pos) (tMeth C m sp dvs E ta t) := by
  intro pins s σ H Q I h
  refine PySem.W.methodCall_KW (pl := pl) (thn (he pins s σ H _ I h) fun u s1 ⟨x, H1, I1, rx, a, dx, fs, ex, ea, l, q⟩ => ?_) ht
  subst ex
  obtain rfl : u = Value.ref a := rx
  refine getmeth_ok I1 ea c hm l ?_
  refine PySem.W.callWith_K (first := [.ref a]) (h₀ := X.base) I.ok.mod.kin hm.kp (thn (ha pos pins s1 σ H1 _ I1 q) fun us s2 ⟨vs, H2, I2, r, q2⟩ => ⟨I2.kIn, ?_⟩) hst hpl
  exact run_fn (us := .ref a :: us) (vs := .ref a :: vs) F hr hb hd hx I2 (.cons rfl r) q2
/-- o.m() -/
theorem pe_meth0 {pl : Sem Bool} (he : PE X o ta) (c : Cls X.K C) (hm : Meth X.K C m f) (F : FnOk X.prog X.w X.K X.mg X.base CX k f fd ps sp) (hr : Room k X.A) (hb : Binds X.K fd ps ds) (hd : Vals dvs ds) (hx : Passes CX X E)
    (ht : eval (.Call (.Attribute o m apos) [] [] pos) X.env = (do
      let ov ← eval o X.env
      standAt apos.atName
      let (f, first) ← holding [ov] (getMethod ov m pl)
      callWith pos f first (backTo pos (starEach [] X.env)) (backToKw pos (keywordEach [] X.env))) := by rfl) :
    PE X (.Call (.Attribute o m apos) [] [] pos) (tMeth C m sp dvs E ta tNil) := by
  intro pins s σ H Q I h
  refine PySem.W.methodCall_KW (pl := pl) (thn (he pins s σ H _ I h) fun u s1 ⟨x, H1, I1, rx, a, dx, fs, ex, ea, l, q⟩ => ?_) ht
  subst ex
  obtain rfl : u = Value.ref a := rx
  refine getmeth_ok I1 ea c hm l ?_
  exact PySem.W.callWith_K0 (first := [.ref a]) I1.kIn hm.kp (run_fn (us := [.ref a]) (vs := [.ref a]) F hr hb hd hx I1 (.cons rfl .nil) q)

/-- what a class must have to be made -/
structure Mk (K : PySem.W.Frag) (C f : Addr) : Prop where
  makes : PySem.W.makesIn K C = true
  init : PySem.W.findIn K (.ref C) "__init__" = some (some (.ref f))
  fn : PySem.W.isFn K (.ref f) = true
  kp : PySem.W.keepIn K (.ref C) = true

theorem run_make {pins : List (Addr × Obj)} {σ : St} {H : Hp} {s : Shared} {Q : VK} {us : List Value} {vs : List V} (M : Mk X.K C f) (F : FnOk X.prog X.w X.K X.mg X.base CX k f fd ps sp) (hr : Room (k + 1) X.A) (hb : Binds X.K fd ps ds) (hd : Vals dvs ds)
    (hx : Passes CX X E) (I : Inv X pins σ H s) (r : Vals vs us)
    (h : ∀ x dx, H x = none → H dx = none → dx ≠ x → sp (.ref x :: (vs ++ dvs)) (upd (upd H dx (.own x)) x (.ins C dx [])) (fun v H2 => v = .non ∧ Q (.ref x) H2) E) :
    wpAny (model X.prog X.w) X.A (call (.ref C) us) (EP X pins σ Q) X.xe s := by
  have hq := h (s.heap.objs.size + 1) s.heap.objs.size (I.hok.fresh (Nat.le_succ _)) (I.hok.fresh (Nat.le_refl _)) (Nat.ne_of_lt (Nat.lt_succ_self _))
  have I2 := Inv.made (C := C) I
  have r2 : Vals (V.ref (s.heap.objs.size + 1) :: (vs ++ dvs)) (Value.ref (s.heap.objs.size + 1) :: (us ++ ds)) := .cons rfl (r.append hd)
  have hl : (Value.ref (s.heap.objs.size + 1) :: us ++ ds).length = ps.length := by
    have e := r2.length
    rw [F.len _ _ _ _ hq] at e
    exact e.symm
  refine wpAny_call (make_map (f := f) I.kIn M.makes M.init (beq_iff_eq.mp M.fn) (codeAny_mono (F.run _ X.stack _ _ ⟨Value.ref (s.heap.objs.size + 1) :: us, []⟩ (Value.ref (s.heap.objs.size + 1) :: (us ++ ds)) _ _ E (hr.make C us [])
    (I2.env0.make C us []) (hb _ (Value.ref (s.heap.objs.size + 1) :: us) I2.kIn hl) r2 hq) fun r s' hq' => ?_))
  cases r with
  | error e => exact hx pins σ _ _ e s' I2 hq'
  | ok fl =>
    cases fl with
    | ret u =>
      obtain ⟨v, H', I3, rv, ev, q3⟩ := I2.after hq'
      subst ev
      exact ⟨rv, ⟨V.ref (s.heap.objs.size + 1), H', I3, rfl, q3⟩⟩
    | next => exact False.elim hq'
    | brk => exact False.elim hq'
    | cont => exact False.elim hq'
theorem pe_make (M : Mk X.K C f) (F : FnOk X.prog X.w X.K X.mg X.base CX k f fd ps sp) (hr : Room (k + 1) X.A) (hg : Gl X x) (hm : X.mg x = some (.ref C)) (hb : Binds X.K fd ps ds) (hd : Vals dvs ds) (hx : Passes CX X E)
    (ha : PA X (e :: es) t) (hdb : (x == ("__debug__" : Str)) = false := by decide) (he : starEach (e :: es) X.env = (false, eval e X.env) :: starEach es X.env := by rfl) (hpl : (backTo pos (starEach es X.env)).any (·.1) = false := by rfl) :
    PE X (.Call (.Name x p) (e :: es) [] pos) (tMake C sp dvs E t) := by
  intro pins s σ H Q I h
  refine wpAny_Call_Name_kw (ld_glob I hg hm ?_ hdb)
  refine PySem.W.callWith_K (h₀ := X.base) I.ok.mod.kin M.kp (thn (ha pos pins s σ H _ I h) fun us s1 ⟨vs, H1, I1, r, q⟩ => ⟨I1.kIn, ?_⟩) he hpl
  exact run_make M F hr hb hd hx I1 r q
theorem pe_make0 (M : Mk X.K C f) (F : FnOk X.prog X.w X.K X.mg X.base CX k f fd ps sp) (hr : Room (k + 1) X.A) (hg : Gl X x) (hm : X.mg x = some (.ref C)) (hb : Binds X.K fd ps ds) (hd : Vals dvs ds) (hx : Passes CX X E)
    (hdb : (x == ("__debug__" : Str)) = false := by decide) : PE X (.Call (.Name x p) [] [] pos) (tMake C sp dvs E tNil) := by
  intro pins s σ H Q I h
  refine wpAny_Call_Name_kw (ld_glob I hg hm ?_ hdb)
  exact PySem.W.callWith_K0 I.kIn M.kp (run_make (us := []) M F hr hb hd hx I .nil h)
end

/-! ### keywords -/
/-- the values of the keywords, from the left -/
def PK (X : Cx) (kws : List Keyword) (t : TA) : Prop :=
  ∀ (pos : Pos) (pins : List (Addr × Obj)) (s : Shared) (σ : St) (H : Hp) (Q : List V → Hp → Prop), Inv X pins σ H s → t σ H Q → wpAny (model X.prog X.w) X.A (evalAll ((backToKw pos (keywordEach kws X.env)).map (·.2))) (AP X pins σ Q) X.xe s
section
variable {X : Cx} {CX : CXT} {k : Nat} {f C : Addr} {fd : FuncData} {ps ks : List Str} {sp : Sp} {E : XK} {x m : Str} {p pos apos kpos : Pos} {e o : Expr} {es : List Expr} {kws : List Keyword} {te ta : TE} {t tk : TA} {nm : Option Str}
theorem pk_nil : PK X [] tNil := fun _ _ _ _ H Q I h => wpAny_evalAll_nil ⟨[], H, I, .nil, h⟩
theorem pk_cons (ha : PE X e te) (hr : PK X kws t) : PK X (⟨nm, e, kpos⟩ :: kws) (tCons te t) := by
  intro pos pins s σ H Q I h
  show wpAny _ _ (evalAll ((do let v ← eval e X.env; standAt pos; pure v) :: (backToKw pos (keywordEach kws X.env)).map (·.2))) _ _ s
  refine wpAny_evalAll_cons (wpAny_bind (thn (ha pins s σ H _ I h) fun u s1 ⟨x, H1, I1, r1, q1⟩ => wpAny_bind (wpAny_standAt (wpAny_pure ?_))))
  exact thn (hr pos pins s1 σ H1 _ I1 q1) fun us s2 ⟨xs, H2, I2, r2, q2⟩ => ⟨x :: xs, H2, I2, .cons r1 r2, q2⟩

/-- how a call with keywords binds: g puts the positional values us and the keywords' values ws (names ks) in the parameters' order, defaults among them -/
structure KBinds (K : PySem.W.Frag) (fd : FuncData) (ps ks : List Str) (g : List Value → List Value → List Value) (gV : List V → List V → List V) : Prop where
  to : ∀ (s : Shared) (us ws : List Value), K.In s.heap → (g us ws).length = ps.length → BindsTo s fd ⟨us, ks.zip ws⟩ (ps.zip (g us ws))
  rel : ∀ {vs : List V} {us : List Value} {zs : List V} {ws : List Value}, Vals vs us → Vals zs ws → Vals (gV vs zs) (g us ws)
def tCallK (sp : Sp) (gV : List V → List V → List V) (E : XK) (t tk : TA) : TE := fun σ H Q => t σ H fun vs H1 => tk σ H1 fun zs H2 => sp (gV vs zs) H2 Q E
variable {g : List Value → List Value → List Value} {gV : List V → List V → List V}
theorem run_fnk {pins : List (Addr × Obj)} {σ : St} {H : Hp} {s : Shared} {Q : VK} {us ws : List Value} {vs zs : List V} (F : FnOk X.prog X.w X.K X.mg X.base CX k f fd ps sp) (hr : Room k X.A) (hb : KBinds X.K fd ps ks g gV) (hx : Passes CX X E)
    (I : Inv X pins σ H s) (r : Vals vs us) (rz : Vals zs ws) (h : sp (gV vs zs) H Q E) : wpAny (model X.prog X.w) X.A (call (.ref f) us (ks.zip ws)) (EP X pins σ Q) X.xe s := by
  have r2 := hb.rel r rz
  have hl : (g us ws).length = ps.length := by rw [← r2.length]; exact F.len _ _ _ _ h
  refine wpAny_call (codeAny_mono (F.run X.A X.stack s H ⟨us, ks.zip ws⟩ (g us ws) (gV vs zs) Q E hr I.env0 (hb.to s us ws I.kIn hl) r2 h) fun r s' hq => ?_)
  cases r with
  | error e => exact hx pins σ H s e s' I hq
  | ok fl =>
    cases fl with
    | ret u => exact I.after hq
    | next => exact False.elim hq
    | brk => exact False.elim hq
    | cont => exact False.elim hq
/-- f(e, .., k = v, ..) -/
theorem pe_callK (F : FnOk X.prog X.w X.K X.mg X.base CX k f fd ps sp) (hr : Room k X.A) (hg : Gl X x) (hm : X.mg x = some (.ref f)) (hk : PySem.W.keepIn X.K (.ref f) = true) (hb : KBinds X.K fd ps ks g gV) (hx : Passes CX X E)
    (ha : PA X (e :: es) t) (hkw : PK X kws tk) (hall : (backToKw pos (keywordEach kws X.env)).all (·.1.isSome) = true := by rfl) (hks : (backToKw pos (keywordEach kws X.env)).filterMap (·.1) = ks := by rfl)
    (hdb : (x == ("__debug__" : Str)) = false := by decide) (he : starEach (e :: es) X.env = (false, eval e X.env) :: starEach es X.env := by rfl)
    (hpl : ((backTo pos (starEach (e :: es) X.env)).any (·.1) || (backToKw pos (keywordEach kws X.env)).any (·.1.isNone)) = false := by rfl) :
    PE X (.Call (.Name x p) (e :: es) kws pos) (tCallK sp gV E t tk) := by
  intro pins s σ H Q I h
  refine wpAny_Call_Name_kw (ld_glob I hg hm ?_ hdb)
  refine PySem.W.callWith_KW (h₀ := X.base) I.ok.mod.kin hk hall (thn (ha pos pins s σ H _ I h) fun us s1 ⟨vs, H1, I1, r, q⟩ => ?_) hpl he
  refine thn (hkw pos pins s1 σ H1 _ I1 q) fun ws s2 ⟨zs, H2, I2, rz, q2⟩ => ⟨I2.kIn, ?_⟩
  rw [hks]
  exact run_fnk F hr hb hx I2 r rz q2
end

/-! ### a def's body keeps its promise -/
/-- names: the parameters first -/
structure FnScope (N P : List Str) (sc : Scope) : Prop where
  kind : sc.kind = .function
  co : sc.isCoroutine = false
  gen : sc.isGenerator = false
  nd : N.Nodup
  pre : N.take P.length = P
  par : ∀ x ∈ P, sc.names.lookup x = some .local ∨ sc.names.lookup x = some .cell
  nofree : ∀ y ∈ sc.names, y.2 ≠ .free

theorem bindL_out {kindOf : Str → Option NameKind} {x : Str} : ∀ {binds : List (Str × Value)} {m : Str → Option Value}, (∀ v, (x, v) ∉ binds) → bindL kindOf binds m x = m x
  | [], _, _ => rfl
  | (n, v) :: r, m, h => by
    unfold bindL
    rw [bindL_out fun w hw => h w (List.mem_cons_of_mem _ hw)]
    split
    · have : x ≠ n := by rintro rfl; exact h v List.mem_cons_self
      simp [this]
    · rfl
theorem bindC_out {kindOf : Str → Option NameKind} {x : Str} : ∀ {binds : List (Str × Value)} {m : Str → Option Value}, (∀ v, (x, v) ∉ binds) → bindC kindOf binds m x = m x
  | [], _, _ => rfl
  | (n, v) :: r, m, h => by
    unfold bindC
    rw [bindC_out fun w hw => h w (List.mem_cons_of_mem _ hw)]
    split
    · rfl
    · have : x ≠ n := by rintro rfl; exact h v List.mem_cons_self
      simp [this]
theorem bindL_get {kindOf : Str → Option NameKind} {x : Str} {v : Value} : ∀ {P : List Str} {vs : List Value} {i : Nat} {m : Str → Option Value}, P.Nodup → P[i]? = some x → vs[i]? = some v → kindOf x = some .local →
    bindL kindOf (P.zip vs) m x = some v
  | [], _, _, _, _, h, _, _ => by simp at h
  | _ :: _, [], _, _, _, _, h, _ => by simp at h
  | p :: P, w :: vs, 0, m, nd, h1, h2, hk => by
    simp at h1 h2; subst h1; subst h2
    show bindL kindOf ((p, w) :: P.zip vs) m p = _
    unfold bindL
    rw [bindL_out fun v hv => (List.nodup_cons.mp nd).1 (List.of_mem_zip hv).1, if_pos hk]
    simp
  | p :: P, w :: vs, i + 1, m, nd, h1, h2, hk => by
    show bindL kindOf ((p, w) :: P.zip vs) m x = _
    unfold bindL
    exact bindL_get (i := i) (List.nodup_cons.mp nd).2 (by simpa using h1) (by simpa using h2) hk
theorem bindC_get {kindOf : Str → Option NameKind} {x : Str} {v : Value} : ∀ {P : List Str} {vs : List Value} {i : Nat} {m : Str → Option Value}, P.Nodup → P[i]? = some x → vs[i]? = some v → kindOf x ≠ some .local →
    bindC kindOf (P.zip vs) m x = some v
  | [], _, _, _, _, h, _, _ => by simp at h
  | _ :: _, [], _, _, _, _, h, _ => by simp at h
  | p :: P, w :: vs, 0, m, nd, h1, h2, hk => by
    simp at h1 h2; subst h1; subst h2
    show bindC kindOf ((p, w) :: P.zip vs) m p = _
    unfold bindC
    rw [bindC_out fun v hv => (List.nodup_cons.mp nd).1 (List.of_mem_zip hv).1, if_neg hk]
    simp
  | p :: P, w :: vs, i + 1, m, nd, h1, h2, hk => by
    show bindC kindOf ((p, w) :: P.zip vs) m x = _
    unfold bindC
    exact bindC_get (i := i) (List.nodup_cons.mp nd).2 (by simpa using h1) (by simpa using h2) hk

/-- the names' values at the entry -/
def start (N : List Str) (vs : List V) : St := vs.map some ++ List.replicate (N.length - vs.length) none

/-- the context of a def's body, at its entry; an exception leaves the frame, then lies as CX says -/
def cxOf (CX : CXT) (P : Program) (w : World) (K : PySem.W.Frag) (mg : Str → Option Value) (base : Heap) (N : List Str) (qual : Str) (scope : Scope) (f : Addr) (cd : Value) (A : Around) (outer : List Env) (s : Shared) (H : Hp) (E : XK) : Cx where
  prog := P
  w := w
  K := K
  mg := mg
  base := base
  A := A.deeper (envOfC qual scope s.heap.objs.size f cd)
  N := N
  s₀ := s
  H₀ := H
  env := envOfC qual scope s.heap.objs.size f cd
  outer := outer
  stack := envOfC qual scope s.heap.objs.size f cd :: outer
  ex := []
  calm := true
  fn := fun _ => true
  pn := []
  xe := fun e s' => wpAny (model P w) (A.deeper (envOfC qual scope s.heap.objs.size f cd)) (leaving (envOfC qual scope s.heap.objs.size f cd) e) (fun _ s'' => CX outer H s E e s'') (fun e' s'' => CX outer H s E e' s'') s'

theorem cell_has {sc : Scope} {n : Nat} {x : Str} (h : sc.names.lookup x = some .cell) : ∃ c, (cellsFrom n sc.names []).lookup x = some c := by
  have q := PySem.W.cellsFrom_some sc.names n [] (.inl h)
  exact Option.isSome_iff_exists.mp q

theorem inv_start {CX : CXT} {P : Program} {w : World} {K : PySem.W.Frag} {mg : Str → Option Value} {base : Heap} {N ps : List Str} {qual : Str} {scope : Scope} {f : Addr} {cd : Value} {A : Around} {outer : List Env} {s s1 : Shared} {H : Hp} {E : XK} {us : List Value} {vs : List V}
    (S : FnScope N ps scope) (hd : A.handled = none) (e0 : Env0 P w K mg base A outer s H) (hl : vs.length = ps.length) (r : Vals vs us)
    (x : InCallC s s.heap.objs.size (bindL (envOfC qual scope s.heap.objs.size f cd).kindOf (ps.zip us) fun _ => none) (cellsFrom (s.heap.objs.size + 1) scope.names []) (bindC (envOfC qual scope s.heap.objs.size f cd).kindOf (ps.zip us) fun _ => none) s1) :
    Inv (cxOf CX P w K mg base N qual scope f cd A outer s H E) [] (start N vs) H s1 := by
  have hpl : ps.length ≤ N.length := by have := congrArg List.length S.pre; rw [List.length_take] at this; omega
  obtain ⟨h1, tk, rfl, hk⟩ := x.done
  have noA : ∀ b : Addr, b ∉ (cxOf CX P w K mg base N qual scope f cd A outer s H E).ex := fun b z => absurd (show b ∈ ([] : List Addr) from z) (by simp)
  refine ⟨⟨e0.mod, S.kind, rfl, rfl, Nat.le_refl _, fun y z c h1 h2 => ?_, fun y hy => ?_, fun y c _ h => ?_, fun _ => hd, Around.frames_deeper e0.frames, .inr ⟨rfl, rfl⟩, fun b z => absurd z (noA b), e0.bs, e0.bsz, fun b _ _ => noA b, fun b z => absurd z (noA b), e0.funs, e0.frf⟩,
    rfl, e0.bare, Un.kept hk, ⟨_, x.toInCall.ns, fun i y v h1 h2 h3 => ?_⟩, fun y c h => ⟨_, x.cell y c h⟩, e0.hok.fresh (Nat.le_refl _), fun y c h => ?_, fun p hp => absurd (show p ∈ ([] : List (Addr × Obj)) from hp) (by simp), e0.hok.kept hk, ?_⟩
  · exact name_of_addr x.apart (PySem.mem_of_lookup h1) (PySem.mem_of_lookup h2)
  · have hy : scope.names.lookup y = some .cell ∨ scope.names.lookup y = some .free := hy
    rcases hy with hy | hy
    · exact cell_has hy
    · exact absurd rfl (S.nofree _ (PySem.mem_of_lookup hy))
  · exact Nat.le_of_lt (x.above y c (PySem.mem_of_lookup h))
  · have hi : i < vs.length := by
      unfold start at h2
      by_cases hi : i < vs.length
      · exact hi
      · rw [List.getElem?_append_right (by simpa using hi)] at h2
        rw [List.getElem?_replicate] at h2
        split at h2 <;> cases h2
    have ha : vs[i]? = some v := by
      unfold start at h2
      rw [List.getElem?_append_left (by simpa using hi), List.getElem?_map] at h2
      cases e : vs[i]? with
      | none => rw [e] at h2; cases h2
      | some a => rw [e] at h2; cases h2; rfl
    obtain ⟨u, hu, rv⟩ := r.get ha
    have hp : ps[i]? = some y := by
      rw [← S.pre, List.getElem?_take_of_lt (by omega)]; exact h1
    have ndP : ps.Nodup := by rw [← S.pre]; exact S.nd.sublist (List.take_sublist _ _)
    refine ⟨u, rv, ?_⟩
    rcases S.par y (List.mem_of_getElem? hp) with k | k
    · exact .inl ⟨k, bindL_get ndP hp hu k⟩
    · obtain ⟨c, e⟩ := cell_has (n := s.heap.objs.size + 1) k
      refine .inr ⟨.inl k, c, e, ?_⟩
      have q := x.cell y c e
      rw [bindC_get ndP hp hu (by show scope.names.lookup y ≠ _; rw [k]; decide)] at q
      exact q
  · exact e0.hok.fresh (Nat.le_of_lt (x.above y c (PySem.mem_of_lookup h)))
  · unfold start
    show _ = N.length
    rw [List.length_append, List.length_map, List.length_replicate]
    omega

/-- THE RULE: a def (or a method) of the text, by its body. The body's reading t is chosen for each entry; it is run at the parameters' values -/
theorem fn_of {CX : CXT} {P : Program} {w : World} {K : PySem.W.Frag} {mg : Str → Option Value} {base : Heap} {k : Nat} {f : Addr} {name qual : Str} {params : Arguments} {body : List Stmt} {scope : Scope} {dV kV doc pm cdv ct oc : Value} {an od : Option Addr}
    {osl : Array (Option Value)} {N ps : List Str} {sp : Sp} (lk : K.lookup f = some ⟨oc, od, .func (PySem.W.fnOf name qual params body scope dV kV doc pm an cdv ct), osl⟩) (hcd : PySem.W.codeIn K cdv qual = true) (S : FnScope N ps scope)
    (len : ∀ vs H Q E, sp vs H Q E → vs.length = ps.length)
    (hbody : ∀ (A : Around) (outer : List Env) (s : Shared) (H : Hp) (vs : List V) (Q : VK) (E : XK), Room k (A.deeper (envOfC qual scope s.heap.objs.size f cdv)) → sp vs H Q E →
      ∃ t, PSs (cxOf CX P w K mg base N qual scope f cdv A outer s H E) body t ∧ t { nx := fun _ H' => Q .non H', rt := Q } (start N vs) H) :
    FnOk P w K mg base CX (k + 1) f (PySem.W.fnOf name qual params body scope dV kV doc pm an cdv ct) ps sp := by
  refine ⟨len, fun A outer s H args us vs Q E hr e0 hb r hsp => ?_⟩
  have hl := len _ _ _ _ hsp
  have KX : K.In s.heap := e0.mod.kin.keeps fun b o e => (e0.bs b o e).1
  have lim : s.heap.NoLimit := e0.mod.nolimit.keeps fun b o e => (e0.bs b o e).1
  have hkind : ∀ y ∈ ps.zip us, scope.names.lookup y.1 = some .local ∨ (scope.names.lookup y.1 = some .cell ∧ ((cellsFrom (s.heap.objs.size + 1) scope.names []).lookup y.1).isSome = true) := fun ⟨n, v⟩ hy => by
    rcases S.par n (List.of_mem_zip hy).1 with q | q
    · exact .inl q
    · exact .inr ⟨q, PySem.W.cellsFrom_some _ _ _ (.inl q)⟩
  refine codeAny_call_function hr.depth (KX _ _ lk) rfl S.co S.gen rfl (PySem.W.codeRec_of KX hcd) (hb _ _ _ _ ?_)
  refine wpAny_newFunctionEnv_cells S.kind hkind fun env he s1 x => ?_
  subst he
  refine ⟨lim.keeps x.toInCall.keep, codeAny_func ?_⟩
  obtain ⟨t, ht, hq⟩ := hbody A outer s H vs Q E (hr.deeper _) hsp
  have I : Inv (cxOf CX P w K mg base N qual scope f cdv A outer s H E) [] (start N vs) H s1 := inv_start S hr.hd e0 hl r x
  refine wpAny_mono (ht [] s1 (start N vs) H _ I hq) (fun fl s' hs => ?_) fun e s' hs => hs
  have fin : ∀ {σ' : St} {H' : Hp} {v : V} {u : Value}, Inv (cxOf CX P w K mg base N qual scope f cdv A outer s H E) [] σ' H' s' → RelV v u → Q v H' → CE outer P w H s Q u s' :=
    fun {σ' H' v u} J rv q => ⟨v, H', J.os, J.bare, J.base, J.hok, rv, q⟩
  cases fl with
  | ret u =>
    obtain ⟨v, σ', H', J, rv, q⟩ := hs
    exact fin J rv q
  | next =>
    obtain ⟨σ', H', J, q⟩ := hs
    exact fin (v := V.non) (u := Value.none) J rfl q
  | brk =>
    obtain ⟨_, _, _, q⟩ := hs
    exact False.elim q
  | cont =>
    obtain ⟨_, _, _, q⟩ := hs
    exact False.elim q
end L2

namespace L2
open PySem PySem.Spec PyProof.Rows
section
variable {X : Cx} {x : Str} {p pos : Pos} {e : Expr} {es : List Expr} {t : TA} {id T : String} {r : List V → Hp → VK → Prop}

def tCB (r : List V → Hp → VK → Prop) (t : TA) : TE := fun σ H Q => t σ H fun vs H1 => r vs H1 Q
/-- f(e, ..), f a built-in function -/
theorem pe_callB (hc : CallR X (.builtin id) r) (hg : Gl X x) (hm : X.mg x = none) (hv : bootBuiltins x = some (.builtin id)) (ha : PA X (e :: es) t) (hn : x ≠ "__name__" := by decide) (hdb : (x == ("__debug__" : Str)) = false := by decide)
    (he : starEach (e :: es) X.env = (false, eval e X.env) :: starEach es X.env := by rfl) (hpl : (backTo pos (starEach es X.env)).any (·.1) = false := by rfl) : PE X (.Call (.Name x p) (e :: es) [] pos) (tCB r t) := by
  intro pins s σ H Q I h
  refine wpAny_Call_Name_kw (ld_blt I hg hm hv ?_ hn hdb)
  exact PyProof.Rows.callWith_builtin1 (thn (ha pos pins s σ H _ I h) fun us s1 ⟨vs, H1, I1, r1, q1⟩ => hc pins s1 σ H1 vs us Q I1 r1 q1) he hpl
/-- T(e, ..), T a built-in type -/
theorem pe_callTy (hc : CallR X (.type T) r) (hg : Gl X x) (hm : X.mg x = none) (hv : bootBuiltins x = some (.type T)) (ha : PA X (e :: es) t) (hn : x ≠ "__name__" := by decide) (hdb : (x == ("__debug__" : Str)) = false := by decide)
    (he : starEach (e :: es) X.env = (false, eval e X.env) :: starEach es X.env := by rfl) (hpl : (backTo pos (starEach es X.env)).any (·.1) = false := by rfl) : PE X (.Call (.Name x p) (e :: es) [] pos) (tCB r t) := by
  intro pins s σ H Q I h
  refine wpAny_Call_Name_kw (ld_blt I hg hm hv ?_ hn hdb)
  exact PyProof.Rows.callWith_type1 (thn (ha pos pins s σ H _ I h) fun us s1 ⟨vs, H1, I1, r1, q1⟩ => hc pins s1 σ H1 vs us Q I1 r1 q1) he hpl
/-- T() -/
theorem pe_callTy0 (hc : CallR X (.type T) r) (hg : Gl X x) (hm : X.mg x = none) (hv : bootBuiltins x = some (.type T)) (hn : x ≠ "__name__" := by decide) (hdb : (x == ("__debug__" : Str)) = false := by decide) :
    PE X (.Call (.Name x p) [] [] pos) (tCB r tNil) := by
  intro pins s σ H Q I h
  refine wpAny_Call_Name_kw (ld_blt I hg hm hv ?_ hn hdb)
  exact PyProof.Rows.callWith_type0 (hc pins s σ H [] [] Q I .nil h)
end
end L2

namespace HT
open PySem PyProof.Rows

/-- t < u of tuples of ints -/
def lexLt : List Int → List Int → Bool
  | [], [] => false
  | [], _ :: _ => true
  | _ :: _, [] => false
  | x :: xs, y :: ys => if x = y then lexLt xs ys else decide (x < y)
theorem lexLt_cons (x y : Int) (xs ys : List Int) : lexLt (x :: xs) (y :: ys) = if x = y then lexLt xs ys else decide (x < y) := rfl
theorem lexLt_nil_nil : lexLt [] [] = false := rfl
theorem lexLt_nil_cons (y : Int) (ys : List Int) : lexLt [] (y :: ys) = true := rfl
theorem lexLt_cons_nil (x : Int) (xs : List Int) : lexLt (x :: xs) [] = false := rfl

theorem eqAt_int (A : Around) (s : Shared) (a : Int) (t : Tok) (c : Int) (u : Tok) : ∃ e, SeqAt.EqAt A s (.int a t) (.int c u) e ∧ (e = true ↔ a = c) :=
  ⟨(a == c), SeqAt.EqAt.int_int a t c u, by simp⟩
theorem rcLt_int (A : Around) (s : Shared) (a : Int) (t : Tok) (c : Int) (u : Tok) (prog : Program) (w : World) (E : Value → Shared → Prop) (Q : Value → Shared → Prop) (h : Q (.bool (decide (a < c))) s) :
    wpAny (model prog w) A (richCompare .Lt (.int a t) (.int c u)) Q E s :=
  (PyProof.Rows.lt_int h : wpAny (model prog w) A (compareOp .Lt (.int a t) (.int c u)) Q E s)

section
open PySem.SeqAt
open PySem.AutoSeq1 (wpAny_loadPart')
open PySem.MeetsSeq PySem.MeetsSeq2 PySem.MeetsSeq3

theorem tuple_lt_ints (l b : Addr) (items items2 : Array Value) (n n2 : Nat) (dd dd2 : Option Addr) (sl sl2 : Array (Option Value)) (ns ms : List Int) (hi : IntsAre items.toList ns) (hj : IntsAre items2.toList ms) :
    Meets (Builtin.«tuple.__lt__» ⟨[.ref l, .ref b], []⟩)
      (fun _ R s => s.heap.get? l = some { cls := .type "tuple", dict := dd, data := .seq items n, slots := sl } ∧ s.heap.get? b = some { cls := .type "tuple", dict := dd2, data := .seq items2 n2, slots := sl2 } ∧
        R (.ok (.ret (.bool (lexLt ns ms)))) s) :=
  .of_wp fun prog w A R s h => by
    obtain ⟨hp, g, d, tk, os⟩ := s; obtain ⟨hl, hb, h⟩ := h
    have f2 := AutoSeq1.sub_tuple_tuple
    have z1 : items.size = ns.length := by rw [← hi.length]; simp
    have z2 : items2.size = ms.length := by rw [← hj.length]; simp
    wp_walk using wpAny_loadPart' hl, wpAny_loadPart' hb, wpAny_forIn_list _ (fun rest b s' => b.1 = none ∧ s' = ⟨hp, g, d, tk, os⟩ ∧ ∃ (vs ws : List Value) (ns' ms' : List Int), rest = vs.zip ws ∧
      IntsAre vs ns' ∧ IntsAre ws ms' ∧ ns'.length + items2.size = ms'.length + items.size ∧ R (.ok (.ret (.bool (lexLt ns' ms')))) ⟨hp, g, d, tk, os⟩) _
    case turn =>
      rintro ⟨y, x⟩ rest b s' ⟨hb', rfl, vs, ws, ns', ms', hz, hvi, hwi, hlen, hR⟩
      cases hvi with
      | nil => rw [List.zip_nil_left] at hz; cases hz
      | cons a t hvi' =>
        cases hwi with
        | nil => rw [List.zip_nil_right] at hz; cases hz
        | cons c u hwi' =>
          rw [List.zip_cons_cons] at hz
          injection hz with hyx hrest
          injection hyx with hy hx
          subst hy hx
          rw [lexLt_cons] at hR
          simp only [List.length_cons] at hlen
          obtain ⟨e, he, hiff⟩ := eqAt_int A.in1 ⟨hp, g, d, tk, os⟩ a t c u
          refine wpAny_bind (he prog w _ _ ?_)
          cases e with
          | true =>
            rw [if_pos (hiff.mp rfl)] at hR
            wp_walk
            exact ⟨rfl, rfl, _, _, _, _, hrest, hvi', hwi', by omega, hR⟩
          | false =>
            rw [if_neg (fun q => absurd (hiff.mpr q) Bool.false_ne_true)] at hR
            have hri := rcLt_int A.in1 ⟨hp, g, d, tk, os⟩ a t c u prog w
            wp_walk using hri
            exact ⟨_, rfl, by simpa using hR⟩
    case fin =>
      rintro ⟨b1, b2⟩ s' ⟨hb', rfl, vs, ws, ns', ms', hz, hvi, hwi, hlen, hR⟩
      simp only at hb'
      subst hb'
      have hv : lexLt ns' ms' = decide (items.size < items2.size) := by
        cases hvi with
        | nil =>
          cases hwi with
          | nil =>
            simp only [List.length_nil] at hlen
            rw [lexLt_nil_nil]
            exact (decide_eq_false (by omega)).symm
          | cons c u hw =>
            simp only [List.length_nil, List.length_cons] at hlen
            rw [lexLt_nil_cons]
            exact (decide_eq_true (by omega)).symm
        | cons a t hv =>
          cases hwi with
          | nil =>
            simp only [List.length_nil, List.length_cons] at hlen
            rw [lexLt_cons_nil]
            exact (decide_eq_false (by omega)).symm
          | cons c u hw =>
            rw [List.zip_cons_cons] at hz
            cases hz
      rw [hv] at hR
      wp_walk
      exact ⟨_, rfl, by simpa [Builtin.Tuple.tupleCompareSizes] using hR⟩
    case h =>
      exact ⟨rfl, rfl, items.toList, items2.toList, ns, ms, rfl, hi, hj, by omega, h⟩
end

section
variable {prog : Program} {w : World} {A : Around} {E : Value → Shared → Prop} {s : Shared}

theorem lt_tupInts {l b : Addr} {items items2 : Array Value} {ns ms : List Int} {Q : Value → Shared → Prop} (hl : IsTup s.heap l items) (hb : IsTup s.heap b items2) (hi : IntsAre items.toList ns) (hj : IntsAre items2.toList ms)
    (hu : A.units < cLine) (h : Q (.bool (lexLt ns ms)) s) : wpAny (model prog w) A (compareOp .Lt (.ref l) (.ref b)) Q E s := by
  obtain ⟨⟨cls, dd, data, sl⟩, ho, hc, n, hd⟩ := id hl
  obtain ⟨⟨cls2, dd2, data2, sl2⟩, ho2, hc2, n2, hd2⟩ := id hb
  simp only at hc hd hc2 hd2
  subst hc hd hc2 hd2
  exact richCompare_meets_room (op := .Lt) ⟨_, ho, rfl⟩ ⟨_, ho2, rfl⟩ PySem.F.slot_tuple_lt PySem.F.entry_tuple_lt (PySem.F.args_tuple_lt_2 _ _) (tuple_lt_ints l b items items2 n n2 dd dd2 sl sl2 ns ms hi hj)
    ⟨ho, ho2, show Value.bool (lexLt ns ms) ≠ Value.notImplemented ∧ Q (.bool (lexLt ns ms)) s from ⟨(fun x => nomatch x), h⟩⟩ hu

/-- t + u, t not empty -/
theorem cat_tup {t b : Addr} {vs ws : List Value} {Q : Value → Shared → Prop} (ht : IsTup s.heap t vs.toArray) (hb : IsTup s.heap b ws.toArray) (hv : vs ≠ [])
    (h1 : ws = [] → Q (.ref t) s) (h2 : ws ≠ [] → Q (.ref s.heap.objs.size) { s with heap := s.heap.push { cls := .type "tuple", data := .seq (vs ++ ws).toArray } })
    (hsz : vs.length + ws.length ≤ sizeLine) : wpAny (model prog w) A (binaryOp .Add (.ref t) (.ref b)) Q E s := by
  obtain ⟨⟨cls, dd, data, sl⟩, ho, hc, n, hd⟩ := id ht
  obtain ⟨⟨cls2, dd2, data2, sl2⟩, ho2, hc2, n2, hd2⟩ := id hb
  simp only at hc hd hc2 hd2
  subst hc hd hc2 hd2
  have e : vs.toArray ++ ws.toArray = (vs ++ ws).toArray := by simp
  by_cases hw : ws = []
  · exact concat_meets ⟨_, ho, rfl⟩ ⟨_, ho2, rfl⟩ noFill_tuple_add seq_tuple_add PySem.F.slot_tuple_add PySem.F.entry_tuple_add (PySem.F.args_tuple_add_2 _ _)
      (tuple_addW1 t b vs.toArray ws.toArray n n2 dd dd2 sl sl2 (by simpa using hv) (by simp [hw])) ⟨ho, ho2, h1 hw⟩
  · refine concat_meets ⟨_, ho, rfl⟩ ⟨_, ho2, rfl⟩ noFill_tuple_add seq_tuple_add PySem.F.slot_tuple_add PySem.F.entry_tuple_add (PySem.F.args_tuple_add_2 _ _)
      (tuple_addW2 t b vs.toArray ws.toArray n n2 dd dd2 sl sl2 (by simpa using hv) (by simpa using hw) (by rw [List.size_toArray, List.size_toArray]; exact hsz)) ⟨ho, ho2, ?_⟩
    rw [e]
    exact h2 hw

/-! ### t[a:b], not the whole -/
/-- a slice's bound as a place among n (d where it is left out) -/
def sIx (n d : Nat) : Option Int → Nat
  | none => d
  | some v => if v < 0 then (v + (n : Int)).toNat else min v.toNat n
theorem sIx_none (n d : Nat) : sIx n d none = d := rfl
theorem sIx_nat (n d k : Nat) : sIx n d (some (k : Int)) = min k n := by
  show (if (k : Int) < 0 then ((k : Int) + (n : Int)).toNat else min (k : Int).toNat n) = min k n
  rw [if_neg (by omega), Int.toNat_natCast]
theorem sIx_le (n d : Nat) (hd : d ≤ n) (o : Option Int) : sIx n d o ≤ n := by
  cases o with
  | none => exact hd
  | some v =>
    show (if v < 0 then (v + (n : Int)).toNat else min v.toNat n) ≤ n
    by_cases hv : v < 0
    · rw [if_pos hv]; omega
    · rw [if_neg hv]; exact Nat.min_le_right _ _
theorem clip_eq (v : Int) (n d : Nat) : (if v < 0 then max (v + (n : Int)) 0 else min v (n : Int)) = ((sIx n d (some v) : Nat) : Int) := by
  show (if v < 0 then max (v + (n : Int)) 0 else min v (n : Int)) = (((if v < 0 then (v + (n : Int)).toNat else min v.toNat n) : Nat) : Int)
  by_cases hv : v < 0
  · simp only [if_pos hv]; omega
  · simp only [if_neg hv]; omega
theorem adjust_gen (lo hi : Option Int) (n : Nat) : Builtin.Slice.sliceAdjust lo hi 1 (n : Int) = (((sIx n 0 lo : Nat) : Int), ((sIx n n hi : Nat) : Int)) := by
  have h1 : ¬ ((1 : Int) < 0) := by omega
  unfold Builtin.Slice.sliceAdjust
  simp only [h1, if_false]
  refine Prod.ext ?_ ?_
  · cases lo with
    | none => rfl
    | some v => exact clip_eq v n 0
  · cases hi with
    | none => rfl
    | some v => exact clip_eq v n n
theorem places_gen (i j : Nat) : Builtin.Slice.slicePlaces (i : Int) (j : Int) 1 = j - i := by
  unfold Builtin.Slice.slicePlaces
  have h1 : (1 : Int) > 0 := by omega
  simp only [h1, if_true, Int.ediv_one]
  split <;> omega
theorem slicePart_ {v : Value} {o : Option Int} {Q : Option Int → Shared → Prop} (p : IsPart v o) (h : Q o s) : wpAny (model prog w) A (Builtin.Slice.slicePartIndex v) Q E s := by
  cases p with
  | none => exact slicePart_none h
  | int i t => exact slicePart_int h
theorem sliceApplied_gen {sl : Addr} {vl vu : Value} {lo hi : Option Int} {n : Nat} {Q : Int × Int × Nat → Shared → Prop} (hs : s.heap.IsSliceOf sl vl vu .none) (pl : IsPart vl lo) (pu : IsPart vu hi)
    (h : Q (((sIx n 0 lo : Nat) : Int), 1, sIx n n hi - sIx n 0 lo) s) : wpAny (model prog w) A (Builtin.Slice.sliceApplied (.ref sl) (pure (n : Int))) Q E s := by
  obtain ⟨os, hos, hcs, hds⟩ := id hs
  unfold Builtin.Slice.sliceApplied Builtin.Slice.sliceFields
  refine wpAny_bind (wpAny_bind (wpAny_field hos hds (x := vl) rfl (wpAny_bind (wpAny_field hos hds (x := vu) rfl (wpAny_bind (wpAny_field hos hds (x := .none) rfl (wpAny_pure ?_)))))))
  refine wpAny_bind (slicePart_none ?_)
  show wpAny _ _ (if ((1 : Int) == 0) = true then _ else _) _ _ s
  rw [if_neg (by decide)]
  refine wpAny_bind (slicePart_ pl (wpAny_bind (slicePart_ pu (wpAny_bind (wpAny_pure ?_)))))
  show wpAny _ _ (match Builtin.Slice.sliceAdjust lo hi 1 (n : Int) with | (lo, hi) => pure (lo, (1 : Int), Builtin.Slice.slicePlaces lo hi 1)) _ _ s
  rw [adjust_gen lo hi n]
  show wpAny _ _ (pure (((sIx n 0 lo : Nat) : Int), (1 : Int), Builtin.Slice.slicePlaces ((sIx n 0 lo : Nat) : Int) ((sIx n n hi : Nat) : Int) 1)) _ _ s
  rw [places_gen]
  exact wpAny_pure h
theorem pick_gen (xs : Array Value) (i k : Nat) : ((List.range k).filterMap fun (m : Nat) => xs[((i : Int) + (m : Int) * 1).toNat]?).toArray = ((xs.toList.drop i).take k).toArray := by
  have e : (fun (m : Nat) => xs[((i : Int) + (m : Int) * 1).toNat]?) = fun m => xs[i + m]? := by
    funext m
    have : ((i : Int) + (m : Int) * 1).toNat = i + m := by omega
    rw [this]
  rw [e]
  have := pick_run xs i k
  rw [List.filterMap_map] at this
  have e2 : ((fun x => xs[x]?) ∘ fun x => i + x) = fun m => xs[i + m]? := rfl
  rw [e2] at this
  rw [this]

theorem getItem_tuple_cut {t sl : Addr} {items : Array Value} {vl vu : Value} {lo hi : Option Int} {Q : Value → Shared → Prop} (ht : IsTup s.heap t items) (hs : s.heap.IsSliceOf sl vl vu .none) (pl : IsPart vl lo) (pu : IsPart vu hi)
    (hw : ¬ (sIx items.size 0 lo = 0 ∧ sIx items.size items.size hi = items.size))
    (h : Q (.ref s.heap.objs.size) { s with heap := s.heap.push { cls := .type "tuple", data := .seq ((items.toList.drop (sIx items.size 0 lo)).take (sIx items.size items.size hi - sIx items.size 0 lo)).toArray } })
    (hsz : items.size ≤ sizeLine) : wpAny (model prog w) A (getItem (.ref t) (.ref sl)) Q E s := by
  have htake : sizeOk (.seq ((items.toList.drop (sIx items.size 0 lo)).take (sIx items.size items.size hi - sIx items.size 0 lo)).toArray) := by
    show ((items.toList.drop (sIx items.size 0 lo)).take (sIx items.size items.size hi - sIx items.size 0 lo)).toArray.size ≤ sizeLine
    rw [List.size_toArray, List.length_take, List.length_drop, Array.length_toList]
    omega
  have hj : sIx items.size items.size hi ≤ items.size := sIx_le _ _ (Nat.le_refl _) hi
  obtain ⟨os, hos, hcs, hds⟩ := id hs
  have hTs : s.TypeIs (.ref sl) "slice" := ⟨os, hos, hcs⟩
  unfold getItem
  try with_reducible refine wpAny_holding ?_
  first | refine wpAny_bind (wpAny_pure ?_) | skip
  refine wpAny_bind (wpAny_sequenceKey ht.typeIs (by decide) ?_)
  refine wpAny_bind (wpAny_callSpecial?_slot (name := Str.ofString "__getitem__") ht.typeIs PyProof.Rows.slot_tuple_getitem
    (wpAny_call_entry PyProof.Rows.slot_tuple_getitem ht.typeIs entry_tuple_getitem ?_ (args_tuple_getitem _ _)))
  show wpAny _ _ (Builtin.Tuple.tupleItemsOf (.ref t) >>= _) _ _ s
  refine wpAny_bind (tupleItemsOf_ ht ?_)
  refine wpAny_bind (wpAny_typeOf hTs ?_)
  rw [if_pos (by decide)]
  refine wpAny_bind (sliceApplied_gen hs pl pu ?_)
  have hno : ¬ ((((sIx items.size 0 lo : Nat) : Int) == 0 && (1 : Int) == 1 && (sIx items.size items.size hi - sIx items.size 0 lo) == items.size) = true) := by
    intro q
    rw [Bool.and_eq_true, Bool.and_eq_true] at q
    have q1 : ((sIx items.size 0 lo : Nat) : Int) = 0 := eq_of_beq q.1.1
    have q2 : sIx items.size items.size hi - sIx items.size 0 lo = items.size := eq_of_beq q.2
    exact hw ⟨by omega, by omega⟩
  show wpAny _ _ (if (((sIx items.size 0 lo : Nat) : Int) == 0 && (1 : Int) == 1 && (sIx items.size items.size hi - sIx items.size 0 lo) == items.size) = true then _ else _) _ _ s
  rw [if_neg hno, pick_gen]
  first
    | exact wpAny_bind (m := Builtin.Tuple.tupleExact _) (wpAny_newObj_type (wpAny_pure ⟨_, rfl, wpAny_pure h⟩) htake)
    | exact wpAny_bind (m := Builtin.Tuple.tupleExact _) (wpAny_newObj_type (wpAny_bind (wpAny_pure (wpAny_pure ⟨_, rfl, wpAny_pure h⟩))) htake)
    | exact wpAny_bind (wpAny_bind (m := Builtin.Tuple.tupleExact _) (wpAny_newObj_type (wpAny_pure (wpAny_pure ⟨_, rfl, wpAny_pure h⟩)) htake))
    | exact wpAny_bind (wpAny_bind (m := Builtin.Tuple.tupleExact _) (wpAny_newObj_type (wpAny_pure ⟨_, rfl, wpAny_pure h⟩) htake))
end
end HT

namespace L2
open PySem PySem.Spec PyProof.Rows

/-! ### the parts of a slice -/
abbrev TO := St → Hp → (Option Int → Hp → Prop) → Prop
/-- a slice's part (left out, or an int) -/
def PO (X : Cx) (e : Option Expr) (t : TO) : Prop :=
  ∀ (pins : List (Addr × Obj)) (s : Shared) (σ : St) (H : Hp) (Q : Option Int → Hp → Prop), Inv X pins σ H s → t σ H Q →
    wpAny (model X.prog X.w) X.A (evalPart e X.env) (fun u s' => ∃ o H', Inv X pins σ H' s' ∧ IsPart u o ∧ Q o H') X.xe s
def tNoPart : TO := fun _ H Q => Q none H
def tPart (t : TE) : TO := fun σ H Q => t σ H fun x H1 => ∃ i, x = .int i ∧ Q (some i) H1

theorem intsAre_of {ns : List Int} : ∀ {us : List Value}, Vals (ns.map V.int) us → IntsAre us ns := by
  induction ns with
  | nil => intro us r; rw [List.map_nil] at r; cases r; exact .nil
  | cons n ns ih =>
    intro us r
    rw [List.map_cons] at r
    cases r with
    | cons r1 r2 =>
      obtain ⟨t, e⟩ := r1
      subst e
      exact .cons n t (ih r2)

section
variable {X : Cx} {e : Expr} {te : TE} {lo hi : Option Expr} {tl th : TO} {pos p2 : Pos}

theorem po_none : PO X none tNoPart := by
  intro pins s σ H Q I h
  rw [evalPart_none]
  exact wpAny_pure ⟨none, H, I, .none, h⟩
theorem po_some (h : PE X e te) : PO X (some e) (tPart te) := by
  intro pins s σ H Q I hw
  rw [evalPart_some]
  refine thn (h pins s σ H _ I hw) fun u s1 ⟨x, H1, I1, r1, q1⟩ => ?_
  obtain ⟨i, rfl, q⟩ := q1
  obtain ⟨t, rfl⟩ := r1
  exact ⟨some i, H1, I1, .int i t, q⟩

/-- what a slice of a value is, by values: the slice object stands at sl -/
def SlR (X : Cx) (r : V → Option Int → Option Int → Hp → VK → Prop) : Prop :=
  ∀ (pins : List (Addr × Obj)) (s : Shared) (σ : St) (H : Hp) (x : V) (v vl vu : Value) (lo hi : Option Int) (sl : Addr) (Q : VK), Inv X pins σ H s → RelV x v → s.heap.IsSliceOf sl vl vu .none → IsPart vl lo → IsPart vu hi → r x lo hi H Q →
    ∃ T id, typeLookup (.type T) "__getitem__" = pure (some (.builtin id)) ∧ s.TypeIs v T ∧ wpAny (model X.prog X.w) X.A (getItem v (.ref sl)) (EP X pins σ Q) X.xe s
theorem SlR.or {r r' : V → Option Int → Option Int → Hp → VK → Prop} (h : SlR X r) (h' : SlR X r') : SlR X (fun x lo hi H Q => r x lo hi H Q ∨ r' x lo hi H Q) := by
  intro pins s σ H x v vl vu lo hi sl Q I rx hs pl pu q
  rcases q with q | q
  · exact h pins s σ H x v vl vu lo hi sl Q I rx hs pl pu q
  · exact h' pins s σ H x v vl vu lo hi sl Q I rx hs pl pu q
def tSl (r : V → Option Int → Option Int → Hp → VK → Prop) (te : TE) (tl th : TO) : TE := fun σ H Q => te σ H fun x H1 => tl σ H1 fun l H2 => th σ H2 fun u H3 => r x l u H3 Q
/-- a[lo:hi], any a -/
theorem pe_slice {r : V → Option Int → Option Int → Hp → VK → Prop} (hr : SlR X r) (he : PE X e te) (hl : PO X lo tl) (hu : PO X hi th) : PE X (.Subscript e (.Slice lo hi none p2) pos) (tSl r te tl th) := by
  intro pins s σ H Q I h
  refine Subscript_ (thn (he pins s σ H _ I h) fun v s1 ⟨x, H1, I1, r1, q1⟩ => ?_)
  refine wpAny_Slice (thn (hl pins s1 σ H1 _ I1 q1) fun vl s2 ⟨l, H2, I2, pl, q2⟩ => thn (hu pins s2 σ H2 _ I2 q2) fun vu s3 ⟨u, H3, I3, pu, q3⟩ => ?_)
  rw [evalPart_none]
  refine wpAny_pure ?_
  have I4 : Inv X pins σ H3 { s3 with heap := s3.heap.push { cls := .type "slice", data := .fields #[vl, vu, .none] } } := I3.kept (t' := s3.toks) fun b ob q => Heap.get?_push_of_some _ q
  obtain ⟨T, id, hT, ht, hg⟩ := hr pins { s3 with heap := s3.heap.push { cls := .type "slice", data := .fields #[vl, vu, .none] } } σ H3 x v vl vu l u s3.heap.objs.size Q I4 r1 (Heap.IsSliceOf.new ..) pl pu q3
  show wpAny (model X.prog X.w) X.A (subscriptTail e (.Slice lo hi none p2) v (.ref s3.heap.objs.size)) (EP X pins σ Q) X.xe { s3 with heap := s3.heap.push { cls := .type "slice", data := .fields #[vl, vu, .none] } }
  exact tail_any (ops := [.ref s3.heap.objs.size, v]) ht hT hg (by with_unfolding_all rfl)

/-- the items of xs[lo:hi] -/
def cutV (xs : List V) (lo hi : Option Int) : List V := (xs.drop (HT.sIx xs.length 0 lo)).take (HT.sIx xs.length xs.length hi - HT.sIx xs.length 0 lo)
theorem cutV_length (xs : List V) (lo hi : Option Int) : (cutV xs lo hi).length ≤ xs.length := by
  unfold cutV
  rw [List.length_take, List.length_drop]
  omega
/-- t[lo:hi], not the whole of it (the whole would be t itself) -/
def rSlT (K : PySem.W.Frag) : V → Option Int → Option Int → Hp → VK → Prop := fun x lo hi H Q => ∃ a xs, x = .ref a ∧ SqT K H a xs ∧
  ¬ (HT.sIx xs.length 0 lo = 0 ∧ HT.sIx xs.length xs.length hi = xs.length) ∧ ∀ p, H p = none → Q (.ref p) (upd H p (.tup (cutV xs lo hi)))
theorem sl_tup : SlR X (rSlT X.K) := by
  intro pins s σ H x v vl vu lo hi sl Q I rx hs pl pu h
  obtain ⟨a, xs, rfl, hx, hw, q⟩ := h
  cases rx
  obtain ⟨its, r, ht, hz⟩ := I.tuple hx
  have hlen : its.toArray.size = xs.length := by rw [List.size_toArray]; exact r.length.symm
  refine ⟨"tuple", _, PyProof.Rows.slot_tuple_getitem.lookup, ht.typeIs, ?_⟩
  refine HT.getItem_tuple_cut ht hs pl pu (by rw [hlen]; exact hw) ?_ (by rw [hlen]; exact hz)
  rw [hlen]
  refine ⟨.ref s.heap.objs.size, _, I.laid (t' := s.toks) (o := .tup (cutV xs lo hi)) (fun b ob q => Heap.get?_push_of_some _ q) (Nat.le_refl _) ?_, rfl, q _ (I.hok.fresh (Nat.le_refl _))⟩
  exact ⟨Nat.le_trans (cutV_length xs lo hi) hz, _, (r.drop (HT.sIx xs.length 0 lo)).take (HT.sIx xs.length xs.length hi - HT.sIx xs.length 0 lo), IsTup.new _ _⟩

/-! ### t < u, t + u -/
def rLtT (K : PySem.W.Frag) : R2 := fun x y H Q => ∃ a b ns ms, x = .ref a ∧ y = .ref b ∧ SqT K H a (ns.map V.int) ∧ SqT K H b (ms.map V.int) ∧ Q (.bl (HT.lexLt ns ms)) H
theorem op_ltT (hu : X.A.units < cLine) : OpR X (compareOp .Lt) (rLtT X.K) := by
  intro pins s σ H x y v u Q I rx ry h
  obtain ⟨a, b, ns, ms, rfl, rfl, ha, hb, q⟩ := h
  cases rx
  cases ry
  obtain ⟨its, r1, p1, _⟩ := I.tuple ha
  obtain ⟨its2, r2, p2, _⟩ := I.tuple hb
  have i1 : IntsAre its.toArray.toList ns := intsAre_of r1
  have i2 : IntsAre its2.toArray.toList ms := intsAre_of r2
  exact HT.lt_tupInts p1 p2 i1 i2 hu ⟨.bl (HT.lexLt ns ms), H, I, rfl, q⟩
/-- t + u, t not empty: u empty gives t itself -/
def rCatT (K : PySem.W.Frag) : R2 := fun x y H Q => ∃ a b xs ys, x = .ref a ∧ y = .ref b ∧ SqT K H a xs ∧ SqT K H b ys ∧ xs ≠ [] ∧ xs.length + ys.length ≤ sizeLine ∧
  (ys = [] → Q (.ref a) H) ∧ (ys ≠ [] → ∀ p, H p = none → Q (.ref p) (upd H p (.tup (xs ++ ys))))
theorem Vals.nil_iff {xs : List V} {us : List Value} (r : Vals xs us) : us = [] ↔ xs = [] := by
  cases r with
  | nil => simp
  | cons _ _ => simp
theorem op_catT : OpR X (binaryOp .Add) (rCatT X.K) := by
  intro pins s σ H x y v u Q I rx ry h
  obtain ⟨a, b, xs, ys, rfl, rfl, ha, hb, hx, hz, q1, q2⟩ := h
  cases rx
  cases ry
  obtain ⟨its, r1, p1, _⟩ := I.tuple ha
  obtain ⟨its2, r2, p2, _⟩ := I.tuple hb
  refine HT.cat_tup p1 p2 (fun z => hx (r1.nil_iff.mp z)) (fun z => ⟨.ref a, H, I, rfl, q1 (r2.nil_iff.mp z)⟩) (fun z => ?_) (by rw [← r1.length, ← r2.length]; exact hz)
  refine ⟨.ref s.heap.objs.size, _, I.laid (t' := s.toks) (o := .tup (xs ++ ys)) (fun b ob q => Heap.get?_push_of_some _ q) (Nat.le_refl _) ?_, rfl, q2 (fun w => z (r2.nil_iff.mpr w)) _ (I.hok.fresh (Nat.le_refl _))⟩
  exact ⟨by rw [List.length_append]; exact hz, _, r1.append r2, IsTup.new _ _⟩
/-- tuple(t) -/
theorem call_tupleT : CallR X (.type "tuple") (fun xs H Q => ∃ a ys, xs = [.ref a] ∧ SqT X.K H a ys ∧ Q (.ref a) H) := by
  intro pins s σ H xs us Q I r h
  obtain ⟨a, ys, rfl, ha, q⟩ := h
  obtain ⟨u, rfl, ru⟩ := vals1 r
  cases ru
  obtain ⟨its, _, p1, _⟩ := I.tuple ha
  exact call_tuple_same (items := its.toArray) p1 ⟨.ref a, H, I, rfl, q⟩
end
end L2

namespace L2
open PySem PySem.Spec PyProof.Rows

/-! ### places -/
/-- the place that an index of any sign means -/
def ixN (n : Nat) (i : Int) : Option Nat := if 0 ≤ i then (if i < n then some i.toNat else none) else if -(n : Int) ≤ i then some (i + n).toNat else none
def atI {α : Type} (xs : List α) (i : Int) : Option α := (ixN xs.length i).bind fun j => xs[j]?
theorem ixN_seq {n : Nat} {i : Int} {j : Nat} (h : ixN n i = some j) : seqIndex? i n = some j ∧ j < n ∧ -(n : Int) ≤ i ∧ i < n := by
  unfold ixN at h
  by_cases h0 : 0 ≤ i
  · rw [if_pos h0] at h
    by_cases h1 : i < n
    · rw [if_pos h1] at h
      have e : i.toNat = j := Option.some.inj h
      exact ⟨by rw [seqIndex_of h0 h1, e], by omega, by omega, h1⟩
    · rw [if_neg h1] at h; cases h
  · rw [if_neg h0] at h
    by_cases h1 : -(n : Int) ≤ i
    · rw [if_pos h1] at h
      have e : (i + n).toNat = j := Option.some.inj h
      exact ⟨by rw [seqIndex_neg (by omega) h1, e], by omega, h1, by omega⟩
    · rw [if_neg h1] at h; cases h
theorem atI_get {α : Type} {xs : List α} {i : Int} {v : α} (h : atI xs i = some v) : ∃ j, seqIndex? i xs.length = some j ∧ xs[j]? = some v ∧ j < xs.length ∧ -(xs.length : Int) ≤ i ∧ i < xs.length := by
  unfold atI at h
  cases e : ixN xs.length i with
  | none => rw [e] at h; cases h
  | some j =>
    rw [e] at h
    obtain ⟨h1, h2, h3, h4⟩ := ixN_seq e
    exact ⟨j, h1, h, h2, h3, h4⟩
theorem atI_nat {α : Type} {xs : List α} {j : Nat} {v : α} (h : xs[j]? = some v) : atI xs (j : Int) = some v := by
  have hj : j < xs.length := (List.getElem?_eq_some_iff.mp h).1
  have e : ixN xs.length (j : Int) = some j := by
    unfold ixN
    rw [if_pos (by omega), if_pos (by omega)]; simp
  unfold atI; rw [e]; exact h
theorem atI_last {α : Type} (xs : List α) (v : α) : atI (xs ++ [v]) (-1) = some v := by
  have hl : (xs ++ [v]).length = xs.length + 1 := by simp
  have e : ixN (xs ++ [v]).length (-1) = some xs.length := by
    unfold ixN
    rw [hl, if_neg (by decide), if_pos (by omega)]
    congr 1
    omega
  unfold atI
  rw [e]
  show (xs ++ [v])[xs.length]? = some v
  simp

/-! ### what may be subscripted -/
/-- what stands as an index of a plain subscript -/
def PlainIx (b : Expr) : Prop := ∀ o i, subscripted b false o i = operate [o, i] (getItem o i)
/-- a subscript by values -/
def IxR (X : Cx) (r : R2) : Prop :=
  ∀ (value slice : Expr) (pins : List (Addr × Obj)) (s : Shared) (σ : St) (H : Hp) (x y : V) (v u : Value) (Q : VK), Inv X pins σ H s → RelV x v → RelV y u → r x y H Q →
    subscripted slice false v u = operate [v, u] (getItem v u) → wpAny (model X.prog X.w) X.A (subscriptTail value slice v u) (EP X pins σ Q) X.xe s
/-- a call of a builtin's method by values: the receiver, the arguments -/
def MtR (X : Cx) (id : String) (r : V → List V → Hp → VK → Prop) : Prop :=
  ∀ (pins : List (Addr × Obj)) (s : Shared) (σ : St) (H : Hp) (x : V) (xs : List V) (v : Value) (us : List Value) (Q : VK), Inv X pins σ H s → RelV x v → Vals xs us → r x xs H Q →
    wpAny (model X.prog X.w) X.A (call (.builtin id) (v :: us)) (EP X pins σ Q) X.xe s
section
variable {X : Cx} {a b : Expr} {ta tb : TE} {pos : Pos}
theorem IxR.or {r r' : R2} (h : IxR X r) (h' : IxR X r') : IxR X (fun x y H Q => r x y H Q ∨ r' x y H Q) := by
  intro value slice pins s σ H x y v u Q I rx ry q hs
  rcases q with q | q
  · exact h value slice pins s σ H x y v u Q I rx ry q hs
  · exact h' value slice pins s σ H x y v u Q I rx ry q hs
theorem MtR.or {id : String} {r r' : V → List V → Hp → VK → Prop} (h : MtR X id r) (h' : MtR X id r') : MtR X id (fun x xs H Q => r x xs H Q ∨ r' x xs H Q) := by
  intro pins s σ H x xs v us Q I rx rs q
  rcases q with q | q
  · exact h pins s σ H x xs v us Q I rx rs q
  · exact h' pins s σ H x xs v us Q I rx rs q
/-- a[b] -/
theorem pe_ix {r : R2} (hr : IxR X r) (ha : PE X a ta) (hb : PE X b tb) (hs : PlainIx b) : PE X (.Subscript a b pos) (tOp r ta tb) := by
  intro pins s σ H Q I h
  exact Subscript_ (binT ha hb I h fun v u s2 x y H2 I2 rx ry q => hr a b pins s2 σ H2 x y v u Q I2 rx ry q (hs _ _))

def rIxL (K : PySem.W.Frag) : R2 := fun x y H Q => ∃ p xs i v, x = .ref p ∧ y = .int i ∧ SqL K H p xs ∧ atI xs i = some v ∧ Q v H
def rIxT (K : PySem.W.Frag) : R2 := fun x y H Q => ∃ p xs i v, x = .ref p ∧ y = .int i ∧ SqT K H p xs ∧ atI xs i = some v ∧ Q v H
def rIxS : R2 := fun x y H Q => ∃ z i c, x = .str z ∧ y = .int i ∧ z.length ≤ sizeLine ∧ atI z.cps.toList i = some c ∧ Q (.str ⟨#[c]⟩) H
theorem ix_list : IxR X (rIxL X.K) := by
  intro value slice pins s σ H x y v u Q I rx ry h hs
  obtain ⟨p, xs, i, z, rfl, rfl, hq, he, q⟩ := h
  cases rx
  obtain ⟨t, rfl⟩ := ry
  obtain ⟨its, r, pl, hz⟩ := I.list hq
  obtain ⟨j, h1, h2, h3, h4, h5⟩ := atI_get he
  obtain ⟨w, ew, rw'⟩ := r.get h2
  have hl := r.length
  have hn := line63
  have fin : EP X pins σ Q w s := ⟨z, H, I, rw', q⟩
  by_cases h0 : 0 ≤ i
  · have hj : i.toNat = j := by
      rw [seqIndex_of h0 h5] at h1
      exact Option.some.inj h1
    exact item_listR pl.isList h0 (by omega) (by rw [hj]; simpa using ew) fin hs
  · have hj : (i + (its.toArray.size : Int)).toNat = j := by
      rw [seqIndex_neg (by omega) h4] at h1
      rw [List.size_toArray, ← hl]
      exact Option.some.inj h1
    exact subscriptTail_builtinR (x := w) pl.isList.typeIs slot_list_getitem.lookup
      (wpAny_getItem_list_neg (Q := fun r s' => r = w ∧ EP X pins σ Q r s') pl.isList (by omega) (by rw [List.size_toArray] <;> omega) (by omega) (by rw [hj]; simpa using ew) ⟨rfl, fin⟩) hs
theorem ix_tup : IxR X (rIxT X.K) := by
  intro value slice pins s σ H x y v u Q I rx ry h hs
  obtain ⟨p, xs, i, z, rfl, rfl, hq, he, q⟩ := h
  cases rx
  obtain ⟨t, rfl⟩ := ry
  obtain ⟨its, r, pl, hz⟩ := I.tuple hq
  obtain ⟨j, h1, h2, h3, h4, h5⟩ := atI_get he
  obtain ⟨w, ew, rw'⟩ := r.get h2
  have hl := r.length
  have hn := line63
  have fin : EP X pins σ Q w s := ⟨z, H, I, rw', q⟩
  exact subscriptTail_builtinR (x := w) pl.typeIs slot_tuple_getitem.lookup
    (getItem_tuple (j := j) (Q := fun r s' => r = w ∧ EP X pins σ Q r s') pl (by omega) (by omega) (by rw [List.size_toArray, ← hl]; exact h1) (by simpa using ew) ⟨rfl, fin⟩) hs
theorem ix_str : IxR X rIxS := by
  intro value slice pins s σ H x y v u Q I rx ry h hs
  obtain ⟨z, i, c, rfl, rfl, hz, he, q⟩ := h
  obtain ⟨t, rfl⟩ := rx
  obtain ⟨t', rfl⟩ := ry
  obtain ⟨j, h1, h2, h3, h4, h5⟩ := atI_get he
  have hl : z.cps.toList.length = z.length := by simp [Str.length]
  rw [hl] at h1 h4 h5
  have hn := line63
  exact tail_any (typeIs_str s z t) slot_str_getitem.lookup (getItem_str (c := c) (by
    have e1 : decide (i < -(2 ^ 63 : Int)) = false := decide_eq_false (by omega)
    have e2 : decide (i ≥ 2 ^ 63) = false := decide_eq_false (by omega)
    rw [e1, e2, Bool.or_false]) (by rw [h1]; simpa using h2) ⟨.str ⟨#[c]⟩, H, I.tok _, ⟨_, rfl⟩, q⟩) hs
/-- list, tuple or str -/
def rIx (K : PySem.W.Frag) : R2 := fun x y H Q => rIxL K x y H Q ∨ rIxT K x y H Q ∨ rIxS x y H Q
theorem ix_seq : IxR X (rIx X.K) := ix_list.or (ix_tup.or ix_str)

/-! ### xs[i] = v, any sign -/
/-- the list's object behind a store -/
theorem mapSeq_set (its : List Value) (n j : Nat) (u : Value) : Obj.mapSeq (·.setIfInBounds j u) { cls := .type "list", data := .seq its.toArray n } = { cls := .type "list", data := .seq (its.set j u).toArray n } := by
  simp [Obj.mapSeq]
theorem Inv.lst {pins : List (Addr × Obj)} {σ : St} {H : Hp} {s : Shared} {p : Addr} {xs : List V} (I : Inv X pins σ H s) (h : H p = some (.lst xs)) :
    ∃ (its : List Value) (n : Nat), Vals xs its ∧ s.heap.get? p = some { cls := .type "list", data := .seq its.toArray n } ∧ xs.length ≤ sizeLine := by
  obtain ⟨z, its, n, r, e⟩ := I.hok p _ h
  exact ⟨its, n, r, e, z⟩
/-- the list at p is written by an update of its object -/
theorem Inv.lstUpd {pins : List (Addr × Obj)} {σ : St} {H : Hp} {s : Shared} {p : Addr} {xs ys : List V} {its its' : List Value} {n n' : Nat} {f : Obj → Obj} (I : Inv X pins σ H s) (h : H p = some (.lst xs))
    (ho : s.heap.get? p = some { cls := .type "list", data := .seq its.toArray n }) (hf : f { cls := .type "list", data := .seq its.toArray n } = { cls := .type "list", data := .seq its'.toArray n' }) (r : Vals ys its') (hz : ys.length ≤ sizeLine) (t : Nat) :
    Inv X pins σ (upd H p (.lst ys)) { s with heap := s.heap.update p f, toks := t } := by
  have e : (s.heap.update p f).get? p = some { cls := .type "list", data := .seq its'.toArray n' } := by
    rw [Heap.get?_update_self f ho (by rw [hf] <;> rfl), hf]
  refine I.write (x := p) (e := p) (by rw [h]; trivial) (.inl rfl) (fun b u hb q => (Heap.get?_update_other _ _ (Ne.symm hb)).trans q) ⟨_, e⟩ ?_
  exact ⟨hz, its', n', r, e⟩
def rSetL : V → V → V → Hp → (Hp → Prop) → Prop := fun o i v H Q => ∃ p xs k j, o = .ref p ∧ i = .int k ∧ H p = some (.lst xs) ∧ ixN xs.length k = some j ∧ Q (upd H p (.lst (xs.set j v)))
theorem set_list : PSet X rSetL := by
  intro pins s σ H o i v ov iv u Q I ro ri rv h
  obtain ⟨p, xs, k, j, rfl, rfl, hp, hj, q⟩ := h
  cases ro
  obtain ⟨t, rfl⟩ := ri
  obtain ⟨its, n, r, ho, hz⟩ := I.lst hp
  obtain ⟨h1, h2, h3, h4⟩ := ixN_seq hj
  have hl := r.length
  have hn := line63
  have I' : Inv X pins σ (upd H p (.lst (xs.set j v))) { s with heap := s.heap.update p (Obj.mapSeq (·.setIfInBounds j u)) } :=
    I.lstUpd hp ho (mapSeq_set its n j u) (r.set rv j) (by rw [List.length_set]; exact hz) s.toks
  by_cases h0 : 0 ≤ k
  · have hk : k.toNat = j := by
      rw [seqIndex_of h0 h4] at h1
      exact Option.some.inj h1
    exact PySem.W.ki_setAt ho h0 (by omega) (by rw [List.size_toArray, ← hl]; exact h4) (by rw [hk]; exact ⟨_, I', q⟩)
  · have hk : (k + (its.toArray.size : Int)).toNat = j := by
      rw [seqIndex_neg (by omega) h3] at h1
      rw [List.size_toArray, ← hl]
      exact Option.some.inj h1
    exact PySem.W.ki_setBack ho (by omega) (by rw [List.size_toArray, ← hl]; exact h3) (by omega) (by rw [hk]; exact ⟨_, I', q⟩)

/-! ### slices -/
theorem slice_bounds (lo hi : Option Int) (n : Nat) : (sliceBounds lo hi none n).1 = ((HT.sIx n 0 lo : Nat) : Int) ∧ (sliceBounds lo hi none n).2.1 = ((HT.sIx n n hi : Nat) : Int) ∧ (sliceBounds lo hi none n).2.2 = 1 := by
  refine ⟨?_, ?_, rfl⟩
  · cases lo with
    | none => simp [sliceBounds, HT.sIx]
    | some i =>
      simp only [sliceBounds, HT.sIx, Option.getD_none, show (1 : Int) > 0 by decide, if_true]
      by_cases h : i < 0
      · simp only [h, if_true] <;> omega
      · simp only [h, if_false] <;> omega
  · cases hi with
    | none => simp [sliceBounds, HT.sIx]
    | some i =>
      simp only [sliceBounds, HT.sIx, Option.getD_none, show (1 : Int) > 0 by decide, if_true]
      by_cases h : i < 0
      · simp only [h, if_true] <;> omega
      · simp only [h, if_false] <;> omega
theorem slicePick_cut (its : List Value) (lo hi : Option Int) : slicePick its.toArray lo hi none = ((its.drop (HT.sIx its.length 0 lo)).take (HT.sIx its.length its.length hi - HT.sIx its.length 0 lo)).toArray := by
  obtain ⟨h1, h2, h3⟩ := slice_bounds lo hi its.toArray.size
  unfold slicePick
  rw [h1, h2, h3]
  simp only [sliceRange_one, pick_run, List.size_toArray] <;> rfl
/-- xs[lo:hi] of a list: a new list -/
def rSlL (K : PySem.W.Frag) : V → Option Int → Option Int → Hp → VK → Prop := fun x lo hi H Q => ∃ a xs, x = .ref a ∧ SqL K H a xs ∧ ∀ p, H p = none → Q (.ref p) (upd H p (.lst (cutV xs lo hi)))
theorem sl_list : SlR X (rSlL X.K) := by
  intro pins s σ H x v vl vu lo hi sl Q I rx hs pl pu h
  obtain ⟨a, xs, rfl, hx, q⟩ := h
  cases rx
  obtain ⟨its, r, ht, hz⟩ := I.list hx
  have hlen := r.length
  refine ⟨"list", _, slot_list_getitem.lookup, ht.isList.typeIs, ?_⟩
  refine wpAny_getItem_list_slice ht.isList hs pl pu .none (by simp) ?_ (by rw [List.size_toArray] <;> omega)
  rw [slicePick_cut, ← hlen]
  refine ⟨.ref s.heap.objs.size, _, I.laid (t' := s.toks) (o := .lst (cutV xs lo hi)) (fun b ob q => Heap.get?_push_of_some _ q) (Nat.le_refl _) ?_, rfl, q _ (I.hok.fresh (Nat.le_refl _))⟩
  exact ⟨Nat.le_trans (cutV_length xs lo hi) hz, _, 0, (r.drop (HT.sIx xs.length 0 lo)).take (HT.sIx xs.length xs.length hi - HT.sIx xs.length 0 lo), Heap.get?_push_size _ rfl⟩

/-! ### in, not in: flat items -/
def flatV : V → Bool
  | .non => true
  | .bl _ => true
  | .int _ => true
  | .str _ => true
  | _ => false
/-- == of flat values -/
def eqV : V → V → Bool
  | .non, .non => true
  | .bl a, .bl b => a == b
  | .bl a, .int b => (if a then 1 else 0) == b
  | .int a, .bl b => a == (if b then 1 else 0)
  | .int a, .int b => a == b
  | .str a, .str b => a == b
  | _, _ => false
theorem eqAt_V {A : Around} {s : Shared} {y x : V} {u v : Value} (ry : RelV y u) (rx : RelV x v) (fy : flatV y = true) (fx : flatV x = true) : SeqAt.EqAt A s u v (eqV y x) := by
  cases y with
  | non =>
    cases ry
    cases x with
    | non => cases rx; exact SeqAt.EqAt.same _
    | bl b => cases rx; exact SeqAt.EqAt.none_bool b
    | int b => obtain ⟨t, rfl⟩ := rx; exact SeqAt.EqAt.none_int b t
    | str b => obtain ⟨t, rfl⟩ := rx; exact SeqAt.EqAt.none_str b t
    | _ => exact absurd (show false = true from fx) Bool.false_ne_true
  | bl a =>
    cases ry
    cases x with
    | non => cases rx; exact SeqAt.EqAt.bool_none a
    | bl b => cases rx; exact SeqAt.EqAt.bool_bool a b
    | int b => obtain ⟨t, rfl⟩ := rx; exact SeqAt.EqAt.bool_int a b t
    | str b => obtain ⟨t, rfl⟩ := rx; exact SeqAt.EqAt.bool_str a b t
    | _ => exact absurd (show false = true from fx) Bool.false_ne_true
  | int a =>
    obtain ⟨t', rfl⟩ := ry
    cases x with
    | non => cases rx; exact SeqAt.EqAt.int_none a t'
    | bl b => cases rx; exact SeqAt.EqAt.int_bool a t' b
    | int b => obtain ⟨t, rfl⟩ := rx; exact SeqAt.EqAt.int_int a t' b t
    | str b => obtain ⟨t, rfl⟩ := rx; exact SeqAt.EqAt.int_str a t' b t
    | _ => exact absurd (show false = true from fx) Bool.false_ne_true
  | str a =>
    obtain ⟨t', rfl⟩ := ry
    cases x with
    | non => cases rx; exact SeqAt.EqAt.str_none a t'
    | bl b => cases rx; exact SeqAt.EqAt.str_bool a t' b
    | int b => obtain ⟨t, rfl⟩ := rx; exact SeqAt.EqAt.str_int a t' b t
    | str b => obtain ⟨t, rfl⟩ := rx; exact SeqAt.EqAt.str_str a t' b t
    | _ => exact absurd (show false = true from fx) Bool.false_ne_true
  | _ => exact absurd (show false = true from fy) Bool.false_ne_true
/-- the items' answers, read off the values (a value's own answer does not lean on its token) -/
def eqU (x : V) (u : Value) : Bool := match u with
  | .none => eqV .non x
  | .bool b => eqV (.bl b) x
  | .int i _ => eqV (.int i) x
  | .str z _ => eqV (.str z) x
  | _ => false
theorem eqU_of {x y : V} {u : Value} (r : RelV y u) (f : flatV y = true) : eqU x u = eqV y x := by
  cases y with
  | non => cases r; rfl
  | bl b => cases r; rfl
  | int i => obtain ⟨t, rfl⟩ := r; rfl
  | str z => obtain ⟨t, rfl⟩ := r; rfl
  | _ => exact absurd (show false = true from f) Bool.false_ne_true
theorem any_eqU {x : V} : ∀ {xs : List V} {us : List Value}, Vals xs us → xs.all flatV = true → us.any (eqU x) = xs.any fun y => eqV y x
  | _, _, .nil, _ => rfl
  | y :: xs, u :: us, .cons r t, f => by
    rw [List.all_cons, Bool.and_eq_true] at f
    rw [List.any_cons, List.any_cons, eqU_of r f.1, any_eqU t f.2]
theorem mem_eqAt {A : Around} {s : Shared} {x : V} {v : Value} (rx : RelV x v) (fx : flatV x = true) : ∀ {xs : List V} {us : List Value}, Vals xs us → xs.all flatV = true → ∀ u ∈ us, SeqAt.EqAt A s u v (eqU x u)
  | _, _, .nil, _ => fun u hu => by cases hu
  | y :: xs, u :: us, .cons r t, f => fun u' hu => by
    rw [List.all_cons, Bool.and_eq_true] at f
    rcases List.mem_cons.mp hu with rfl | hu
    · rw [eqU_of r f.1]; exact eqAt_V r rx f.1 fx
    · exact mem_eqAt rx fx t f.2 u' hu
def inV (x : V) (xs : List V) : Bool := xs.any fun y => eqV y x
/-- x in a list or tuple of flat items -/
def rIn (K : PySem.W.Frag) (neg : Bool) : R2 := fun x y H Q => ∃ p xs, y = .ref p ∧ (SqL K H p xs ∨ SqT K H p xs) ∧ flatV x = true ∧ xs.all flatV = true ∧ Q (.bl (if neg then !inV x xs else inV x xs)) H
theorem op_in_seq : OpR X (compareOp .In) (rIn X.K false) := by
  intro pins s σ H x y v u Q I rx ry h
  obtain ⟨p, xs, rfl, hq, fx, fs, q⟩ := h
  cases ry
  rcases hq with hq | hq
  · obtain ⟨its, r, pl, hz⟩ := I.list hq
    refine SeqAt.in_listAt (eqU x) pl.isList (fun w hw => mem_eqAt rx fx r fs w (by simpa using hw)) ⟨.bl _, H, I, rfl, ?_⟩
    rw [show its.toArray.any (eqU x) = its.any (eqU x) by simp, any_eqU r fs]
    exact q
  · obtain ⟨its, r, pl, hz⟩ := I.tuple hq
    refine SeqAt.in_tupleAt (eqU x) pl (fun w hw => mem_eqAt rx fx r fs w (by simpa using hw)) ⟨.bl _, H, I, rfl, ?_⟩
    rw [show its.toArray.any (eqU x) = its.any (eqU x) by simp, any_eqU r fs]
    exact q
theorem op_notIn_seq : OpR X (compareOp .NotIn) (rIn X.K true) := by
  intro pins s σ H x y v u Q I rx ry h
  obtain ⟨p, xs, rfl, hq, fx, fs, q⟩ := h
  cases ry
  rcases hq with hq | hq
  · obtain ⟨its, r, pl, hz⟩ := I.list hq
    refine SeqAt.notIn_listAt (eqU x) pl.isList (fun w hw => mem_eqAt rx fx r fs w (by simpa using hw)) ⟨.bl _, H, I, rfl, ?_⟩
    rw [show its.toArray.any (eqU x) = its.any (eqU x) by simp, any_eqU r fs]
    exact q
  · obtain ⟨its, r, pl, hz⟩ := I.tuple hq
    refine SeqAt.notIn_tupleAt (eqU x) pl (fun w hw => mem_eqAt rx fx r fs w (by simpa using hw)) ⟨.bl _, H, I, rfl, ?_⟩
    rw [show its.toArray.any (eqU x) = its.any (eqU x) by simp, any_eqU r fs]
    exact q
theorem op_notIn_str : OpR X (compareOp .NotIn) (fun x y H Q => ∃ i j, x = .str i ∧ y = .str j ∧ Q (.bl (!(!(Builtin.Str.occurrences j i 0 j.length 1).isEmpty))) H) := by
  intro pins s σ H x y v u Q I rx ry h
  obtain ⟨i, j, rfl, rfl, q⟩ := h
  obtain ⟨t, rfl⟩ := rx
  obtain ⟨t', rfl⟩ := ry
  exact notIn_str ⟨.bl _, H, I, rfl, q⟩

/-! ### len, list(x), tuple(x) of any list or tuple that is read -/
theorem call_len_seq : CallR X (.builtin "len") (fun xs H Q => ∃ p ys, xs = [.ref p] ∧ (SqL X.K H p ys ∨ SqT X.K H p ys) ∧ Q (.int ys.length) H) := by
  intro pins s σ H xs us Q I r h
  obtain ⟨p, ys, rfl, hq, q⟩ := h
  obtain ⟨u, rfl, rx⟩ := vals1 r
  cases rx
  have hn := line63
  rcases hq with hq | hq
  · obtain ⟨its, r', pl, hz⟩ := I.list hq
    have hlen := r'.length
    exact Calls.call_len_list pl.isList (by simp only [List.size_toArray] <;> omega) ⟨.int ys.length, H, I.tok _, ⟨s.toks + 1, by rw [List.size_toArray, hlen]⟩, q⟩
  · obtain ⟨its, r', pl, hz⟩ := I.tuple hq
    have hlen := r'.length
    exact len_tuple pl (by simp only [List.size_toArray] <;> omega) ⟨.int ys.length, H, I.tok _, ⟨s.toks + 1, by rw [List.size_toArray, hlen]⟩, q⟩
theorem call_len_str : CallR X (.builtin "len") (fun xs H Q => ∃ z, xs = [.str z] ∧ z.length ≤ sizeLine ∧ Q (.int z.length) H) := by
  intro pins s σ H xs us Q I r h
  obtain ⟨z, rfl, hz, q⟩ := h
  obtain ⟨u, rfl, t, rfl⟩ := vals1 r
  have hn := line63
  exact len_str (by omega) ⟨.int z.length, H, I.tok _, ⟨_, rfl⟩, q⟩
theorem CallR.or {f : Value} {r r' : List V → Hp → VK → Prop} (h : CallR X f r) (h' : CallR X f r') : CallR X f (fun xs H Q => r xs H Q ∨ r' xs H Q) := by
  intro pins s σ H xs us Q I rs q
  rcases q with q | q
  · exact h pins s σ H xs us Q I rs q
  · exact h' pins s σ H xs us Q I rs q
theorem call_list_of : CallR X (.type "list") (fun xs H Q => ∃ p ys, xs = [.ref p] ∧ (SqL X.K H p ys ∨ SqT X.K H p ys) ∧ ∀ l, H l = none → Q (.ref l) (upd H l (.lst ys))) := by
  intro pins s σ H xs us Q I r h
  obtain ⟨p, ys, rfl, hq, q⟩ := h
  obtain ⟨u, rfl, rx⟩ := vals1 r
  cases rx
  have fin : ∀ (its : List Value), Vals ys its → ys.length ≤ sizeLine → ∀ (h' : Heap) (c' : Nat), (∀ b o', s.heap.get? b = some o' → h'.get? b = some o') →
      h'.get? s.heap.objs.size = some { cls := .type "list", dict := none, data := .seq its.toArray c', slots := #[] } → EP X pins σ Q (.ref s.heap.objs.size) { s with heap := h' } := fun its r' hz h' c' kp e =>
    ⟨.ref s.heap.objs.size, _, I.laid (t' := s.toks) kp (Nat.le_refl _) (show ObjOk X.prog X.w _ h' _ (.lst ys) from ⟨hz, its, c', r', e⟩), rfl, q _ (I.hok.fresh (Nat.le_refl _))⟩
  rcases hq with hq | hq
  · obtain ⟨its, r', pl, hz⟩ := I.list hq
    have hlen := r'.length
    obtain ⟨o, ho, hc, n, hd⟩ := pl.isList
    exact call_list_seq p (.inl rfl) ho hc hd (fun h' c' kp e => fin its r' hz h' c' kp e) (by simp only [List.size_toArray] <;> omega)
  · obtain ⟨its, r', pl, hz⟩ := I.tuple hq
    have hlen := r'.length
    obtain ⟨o, ho, hc, n, hd⟩ := pl
    exact call_list_seq p (.inr rfl) ho hc hd (fun h' c' kp e => fin its r' hz h' c' kp e) (by simp only [List.size_toArray] <;> omega)
theorem call_tuple_of : CallR X (.type "tuple") (fun xs H Q => ∃ p ys, xs = [.ref p] ∧ ((SqL X.K H p ys ∧ ∀ l, H l = none → Q (.ref l) (upd H l (.tup ys))) ∨ (SqT X.K H p ys ∧ Q (.ref p) H))) := by
  intro pins s σ H xs us Q I r h
  obtain ⟨p, ys, rfl, h⟩ := h
  obtain ⟨u, rfl, rx⟩ := vals1 r
  cases rx
  rcases h with ⟨hq, q⟩ | ⟨hq, q⟩
  · obtain ⟨its, r', pl, hz⟩ := I.list hq
    have hlen := r'.length
    refine call_tuple_list pl.isList (fun h' kp => ?_) (by simp only [List.size_toArray] <;> omega)
    have I1 : Inv X pins σ H { s with heap := h' } := I.kept (t' := s.toks) kp
    have I2 : Inv X pins σ (upd H h'.objs.size (.tup ys)) { s with heap := h'.push { cls := .type "tuple", data := .seq its.toArray } } :=
      I1.laid (t' := s.toks) (fun b o e => Heap.get?_push_of_some _ e) (Nat.le_refl _) (show ObjOk X.prog X.w _ _ _ (.tup ys) from ⟨hz, its, r', IsTup.new _ _⟩)
    exact ⟨.ref h'.objs.size, _, I2, rfl, q _ (I1.hok.fresh (Nat.le_refl _))⟩
  · obtain ⟨its, r', pl, hz⟩ := I.tuple hq
    exact call_tuple_same pl ⟨.ref p, H, I, rfl, q⟩

/-! ### the call of a builtin's method: o.m(..) -/
/-- the value is of that builtin type -/
def tyV (K : PySem.W.Frag) (T : String) (x : V) (H : Hp) : Prop := match x with
  | .str _ => T = "str"
  | .int _ => T = "int"
  | .ref p => (T = "list" ∧ ∃ xs, SqL K H p xs) ∨ (T = "tuple" ∧ ∃ o, K.lookup p = some o ∧ o.cls = .type "tuple" ∧ o.dict = none) ∨
      (T = "dict" ∧ ((∃ kvs, H p = some (.dK kvs)) ∨ ∃ kvs, H p = some (.dT kvs))) ∨ (T = "set" ∧ ∃ S n, H p = some (.set S n))
  | _ => False
theorem tyV_is {pins : List (Addr × Obj)} {σ : St} {H : Hp} {s : Shared} {T : String} {x : V} {v : Value} (I : Inv X pins σ H s) (r : RelV x v) (ty : tyV X.K T x H) :
    s.TypeIs v T ∧ ∀ a, v = .ref a → ∃ ob, s.heap.get? a = some ob ∧ ob.dict = none := by
  cases x with
  | str z =>
    obtain ⟨t, rfl⟩ := r
    cases (show T = "str" from ty)
    exact ⟨typeIs_str s z t, fun _ e => nomatch e⟩
  | int i =>
    obtain ⟨t, rfl⟩ := r
    cases (show T = "int" from ty)
    exact ⟨typeIs_int s i t, fun _ e => nomatch e⟩
  | ref p =>
    cases r
    rcases ty with ⟨rfl, xs, hq⟩ | ⟨rfl, o, hk, hc, hd⟩ | ⟨rfl, hk⟩ | ⟨rfl, S, n, hk⟩
    · obtain ⟨its, _, pl, _⟩ := I.list hq
      refine ⟨pl.isList.typeIs, fun a e => ?_⟩
      cases e
      obtain ⟨o, n, e, c, hd, _⟩ := pl
      exact ⟨o, e, hd⟩
    · refine ⟨⟨o, I.kIn p o hk, hc⟩, fun a e => ?_⟩
      cases e
      exact ⟨o, I.kIn _ o hk, hd⟩
    · have z : ∃ o, s.heap.get? p = some o ∧ o.ExactDict := by
        rcases hk with ⟨kvs, hk⟩ | ⟨kvs, hk⟩
        · obtain ⟨_, _, _, _, o, _, _, e, ex, _⟩ := I.hok p _ hk
          exact ⟨o, e, ex⟩
        · obtain ⟨_, _, _, _, o, _, _, e, ex, _⟩ := I.hok p _ hk
          exact ⟨o, e, ex⟩
      obtain ⟨o, e, ex⟩ := z
      refine ⟨⟨o, e, ex.1⟩, fun a e2 => ?_⟩
      cases e2
      exact ⟨o, e, ex.2.1⟩
    · obtain ⟨o, _, _, _, e, ex, _⟩ := I.hok p _ hk
      refine ⟨⟨o, e, ex.1⟩, fun a e2 => ?_⟩
      cases e2
      exact ⟨o, e, ex.2.1⟩
  | _ => exact False.elim ty
def tBM0 (K : PySem.W.Frag) (T : String) (r : V → List V → Hp → VK → Prop) (to : TE) : TE := fun σ H Q => to σ H fun x H1 => tyV K T x H1 ∧ r x [] H1 Q
def tBM (K : PySem.W.Frag) (T : String) (r : V → List V → Hp → VK → Prop) (to : TE) (t : TA) : TE := fun σ H Q => to σ H fun x H1 => tyV K T x H1 ∧ t σ H1 fun xs H2 => r x xs H2 Q
variable {o e : Expr} {es : List Expr} {to : TE} {t : TA} {name : Str} {apos cpos : Pos} {T id : String} {r : V → List V → Hp → VK → Prop}
theorem pe_bm0 (pa : PlainAttrs T) (slot : Slot T name id) (hty : typeOf (.builtin id) = pure (.type "method_descriptor")) (hm : MtR X id r) (ho : PE X o to)
    (hbase : attributeBase o name X.env (eval o X.env) = eval o X.env := by rfl) (hline : (apos.endLine == cpos.line) = true := by rfl) : PE X (.Call (.Attribute o name apos) [] [] cpos) (tBM0 X.K T r to) := by
  intro pins s σ H Q I h
  refine wpAny_Call_method0_late hbase hline (thn (ho pins s σ H _ I h) fun v s1 ⟨x, H1, I1, r1, ty, q1⟩ => ?_)
  obtain ⟨h1, h2⟩ := tyV_is I1 r1 ty
  exact ⟨T, id, pa, slot, hty, h1, h2, Calls.callWith_builtin rfl (PySem.evalArgs_none (hm pins s1 σ H1 x [] v [] Q I1 r1 .nil q1))⟩
theorem pe_bm (pa : PlainAttrs T) (slot : Slot T name id) (hty : typeOf (.builtin id) = pure (.type "method_descriptor")) (hm : MtR X id r) (ho : PE X o to) (ha : PA X (e :: es) t)
    (hbase : attributeBase o name X.env (eval o X.env) = eval o X.env := by rfl)
    (hfew : ((backTo cpos (starEach (e :: es) X.env)).all (fun x => !x.1) && (backToKw cpos (keywordEach [] X.env)).all (fun x => x.1.isSome)
      && decide ((e :: es).length + ([] : List Keyword).length + (if ([] : List Keyword).isEmpty then 0 else 1) < 30)) = true := by rfl)
    (hline : (apos.endLine == cpos.line) = true := by rfl) (hs : starEach (e :: es) X.env = (false, eval e X.env) :: starEach es X.env := by rfl) (hplain : (backTo cpos (starEach es X.env)).any (·.1) = false := by rfl) :
    PE X (.Call (.Attribute o name apos) (e :: es) [] cpos) (tBM X.K T r to t) := by
  intro pins s σ H Q I h
  refine wpAny_Call_method_late hbase hfew hline rfl (thn (ho pins s σ H _ I h) fun v s1 ⟨x, H1, I1, r1, ty, q1⟩ => ?_)
  obtain ⟨h1, h2⟩ := tyV_is I1 r1 ty
  refine ⟨T, id, pa, slot, hty, h1, h2, ?_⟩
  have hA := ha cpos pins s1 σ H1 _ I1 q1
  rw [hs] at hA ⊢
  refine Calls.callWith_builtin (by show (false || (backTo cpos (starEach es X.env)).any (·.1)) = false; rw [hplain] <;> rfl) (Calls.evalArgs_plain ?_)
  exact thn hA fun us s2 ⟨vs, H2, I2, r2, q2⟩ => hm pins s2 σ H2 x vs v us Q I2 r1 r2 q2
/- xs.append(e), list.index on a module's tuple .. are MtR facts of 06m -/
end
end L2

namespace L2
open PySem PySem.Spec PyProof.Rows

def MtM (X : Cx) (id : String) (r : V → List V → Hp → VK → Prop) : Prop :=
  ∀ (pins : List (Addr × Obj)) (s : Shared) (σ : St) (H : Hp) (x : V) (xs : List V) (v : Value) (us : List Value) (Q : VK), Inv X pins σ H s → RelV x v → Vals xs us → r x xs H Q →
    wpAny (model X.prog X.w) X.A (call (.builtin id) (v :: us)) (EP X pins σ Q) X.xe s

/-! ### lists of values -/
theorem Vals.one : ∀ {x : V} {us : List Value}, Vals [x] us → ∃ u, us = [u] ∧ RelV x u
  | _, _, .cons r .nil => ⟨_, rfl, r⟩
theorem Vals.two : ∀ {x y : V} {us : List Value}, Vals [x, y] us → ∃ u v, us = [u, v] ∧ RelV x u ∧ RelV y v
  | _, _, _, .cons r (.cons q .nil) => ⟨_, _, rfl, r, q⟩
theorem Vals.zero : ∀ {us : List Value}, Vals [] us → us = []
  | _, .nil => rfl
theorem Vals.dropLast {xs : List V} {us : List Value} (h : Vals xs us) : Vals xs.dropLast us.dropLast := by
  induction h with
  | nil => exact .nil
  | cons r t ih =>
    cases t with
    | nil => exact .nil
    | cons q t' => exact .cons r ih
theorem Vals.eraseIdx : ∀ {xs : List V} {us : List Value} (i : Nat), Vals xs us → Vals (xs.eraseIdx i) (us.eraseIdx i)
  | _, _, _, .nil => .nil
  | _, _, 0, .cons _ t => t
  | _, _, i + 1, .cons r t => .cons r (Vals.eraseIdx i t)
theorem Vals.reverse {xs : List V} {us : List Value} (h : Vals xs us) : Vals xs.reverse us.reverse := by
  induction h with
  | nil => exact .nil
  | cons r t ih => rw [List.reverse_cons, List.reverse_cons]; exact Vals.append ih (.cons r .nil)
theorem Vals.rep {xs : List V} {us : List Value} (h : Vals xs us) : ∀ k : Nat, Vals (List.replicate k xs).flatten (List.replicate k us).flatten
  | 0 => .nil
  | k + 1 => by
    rw [List.replicate_succ, List.replicate_succ, List.flatten_cons, List.flatten_cons]
    exact Vals.append h (Vals.rep h k)
theorem erase_last {α : Type} (l : List α) : l.eraseIdx (l.length - 1) = l.dropLast := by
  induction l with
  | nil => rfl
  | cons a r ih =>
    cases r with
    | nil => rfl
    | cons b r =>
      have e : (a :: b :: r).length - 1 = ((b :: r).length - 1) + 1 := by
        have h1 : (a :: b :: r).length = r.length + 2 := rfl
        have h2 : (b :: r).length = r.length + 1 := rfl
        omega
      rw [e, List.eraseIdx_cons_succ, ih]
      all_goals rfl
theorem len_erase {α : Type} : ∀ (l : List α) (i : Nat), (l.eraseIdx i).length ≤ l.length
  | [], _ => Nat.le_refl _
  | _ :: _, 0 => Nat.le_succ _
  | _ :: r, i + 1 => Nat.succ_le_succ (len_erase r i)
theorem foldl_rep (its : List Value) : ∀ (k : Nat) (acc : List Value),
    List.foldl (fun x1 x2 => x1 ++ x2) acc.toArray (List.replicate k its.toArray) = (acc ++ (List.replicate k its).flatten).toArray
  | 0, acc => by simp
  | k + 1, acc => by
    have e : acc.toArray ++ its.toArray = (acc ++ its).toArray := by simp
    have e2 : (acc ++ its) ++ (List.replicate k its).flatten = acc ++ (List.replicate (k + 1) its).flatten := by
      rw [List.replicate_succ, List.flatten_cons, List.append_assoc]
    rw [← e2, ← foldl_rep its k (acc ++ its), ← e, List.replicate_succ, List.foldl_cons]

section
variable {X : Cx} {pins : List (Addr × Obj)} {σ : St} {H : Hp} {s : Shared} {l b : Addr} {xs ys zs : List V}

/-! ### the two steps: a tracked list is rewritten, a new list is laid -/
theorem Inv.lset {its its' : List Value} {n : Nat} {f : Array Value → Array Value} {t' : Nat} (I : Inv X pins σ H s) (hH : H l = some (.lst xs))
    (e : s.heap.get? l = some { cls := .type "list", data := .seq its.toArray n }) (hf : f its.toArray = its'.toArray) (hv : Vals ys its') (hz : ys.length ≤ sizeLine) :
    Inv X pins σ (upd H l (.lst ys)) { s with heap := s.heap.update l (Obj.mapSeq f), toks := t' } := by
  have q := PySem.IsL.update e f
  rw [hf] at q
  refine I.write (x := l) (e := l) (by rw [hH]; exact trivial) (.inl rfl) (fun b' u hb hu => (Heap.get?_update_other s.heap (Obj.mapSeq f) (Ne.symm hb)).trans hu) ⟨_, q⟩ ?_
  exact ⟨hz, its', _, hv, q⟩
theorem Inv.lnew {its : List Value} {t' : Nat} (I : Inv X pins σ H s) (hv : Vals ys its) (hz : ys.length ≤ sizeLine) :
    Inv X pins σ (upd H s.heap.objs.size (.lst ys)) { s with heap := s.heap.push { cls := .type "list", data := .seq its.toArray }, toks := t' } :=
  I.laid (fun _ _ q => Heap.get?_push_of_some _ q) (Nat.le_refl _) ⟨hz, its, 0, hv, Heap.get?_push_size _ rfl⟩
theorem Inv.fresh (I : Inv X pins σ H s) : H s.heap.objs.size = none := I.hok.fresh (Nat.le_refl _)
theorem Inv.lstM (I : Inv X pins σ H s) (hH : H l = some (.lst xs)) : xs.length ≤ sizeLine ∧ ∃ (its : List Value) (n : Nat), Vals xs its ∧ xs.length = its.length ∧ s.heap.get? l = some { cls := .type "list", data := .seq its.toArray n } := by
  obtain ⟨z, its, n, r, e⟩ := I.hok l _ hH
  exact ⟨z, its, n, r, r.length, e⟩

theorem notLongL {n : Nat} (h : n ≤ sizeLine) : Builtin.List.listTooLong n = false := by
  unfold Builtin.List.listTooLong
  exact decide_eq_false (by omega)
end

section
variable {X : Cx}

/-! ### methods -/
def rAppend : V → List V → Hp → VK → Prop := fun x vs H Q => ∃ l xs y, x = .ref l ∧ vs = [y] ∧ H l = some (.lst xs) ∧ xs.length < sizeLine ∧ Q .non (upd H l (.lst (xs ++ [y])))
theorem mt_append : MtM X "list.append" rAppend := by
  intro pins s σ H x vs v us Q I rx rv h
  obtain ⟨l, xs, y, rfl, rfl, hH, hz, q⟩ := h
  cases rx
  obtain ⟨u, rfl, ru⟩ := rv.one
  obtain ⟨z, its, n, r, hl, e⟩ := I.lstM hH
  refine call_meets F.slot_list_append ⟨_, e, rfl⟩ F.entry_list_append (F.args_list_append_2 _ _) (PySem.list_append l its.toArray n u (by rw [List.size_toArray]; omega)) ⟨e, ?_⟩
  refine ⟨.non, _, I.lset (its' := its ++ [u]) hH e (by simp) (r.append (.cons ru .nil)) ?_, rfl, q⟩
  rw [List.length_append, List.length_singleton]
  omega

def rExtend : V → List V → Hp → VK → Prop := fun x vs H Q => ∃ l b xs zs, x = .ref l ∧ vs = [.ref b] ∧ H l = some (.lst xs) ∧ H b = some (.lst zs) ∧ xs.length + zs.length ≤ sizeLine ∧ Q .non (upd H l (.lst (xs ++ zs)))
theorem mt_extend : MtM X "list.extend" rExtend := by
  intro pins s σ H x vs v us Q I rx rv h
  obtain ⟨l, b, xs, zs, rfl, rfl, hH, hB, hz, q⟩ := h
  cases rx
  obtain ⟨u, rfl, ru⟩ := rv.one
  cases ru
  obtain ⟨z, its, n, r, hl, e⟩ := I.lstM hH
  obtain ⟨z2, its2, n2, r2, hl2, e2⟩ := I.lstM hB
  have hsz : its.toArray.size + its2.toArray.size ≤ sizeLine := by rw [List.size_toArray, List.size_toArray]; omega
  have hlong : ¬ (!its.toArray.isEmpty && Builtin.List.listTooLong (its.toArray.size + its2.toArray.size)) = true := by
    rw [notLongL hsz, Bool.and_false]
    exact Bool.false_ne_true
  refine call_meets F.slot_list_extend ⟨_, e, rfl⟩ F.entry_list_extend (F.args_list_extend_2 _ _)
    (AutoSeq1.list_extend_list_list_0 l its.toArray n b its2.toArray n2 hlong (by rw [List.size_toArray]; omega) (by omega)) ⟨e, e2, ?_⟩
  refine ⟨.non, _, I.lset (its' := its ++ its2) hH e (by simp) (r.append r2) ?_, rfl, q⟩
  rw [List.length_append]
  omega

def rPop : V → List V → Hp → VK → Prop := fun x vs H Q => ∃ l xs y, x = .ref l ∧ vs = [] ∧ H l = some (.lst xs) ∧ xs[xs.length - 1]? = some y ∧ Q y (upd H l (.lst xs.dropLast))
theorem mt_pop : MtM X "list.pop" rPop := by
  intro pins s σ H x vs v us Q I rx rv h
  obtain ⟨l, xs, y, rfl, rfl, hH, hy, q⟩ := h
  cases rx
  have hus := rv.zero
  subst hus
  obtain ⟨z, its, n, r, hl, e⟩ := I.lstM hH
  obtain ⟨u, hu, ru⟩ := r.get hy
  have hy' : its.toArray[its.toArray.size - 1]? = some u := by
    show its.toArray[its.length - 1]? = some u
    rw [← Array.getElem?_toList, ← hl]
    exact hu
  refine call_meets F.slot_list_pop ⟨_, e, rfl⟩ F.entry_list_pop (F.args_list_pop_1 _) (MeetsSeq.list_pop_last l its.toArray n u hy' (by rw [List.size_toArray]; omega)) ⟨e, ?_⟩
  refine ⟨y, _, I.lset (its' := its.dropLast) hH e ?_ r.dropLast ?_, ru, q⟩
  · show its.toArray.eraseIdxIfInBounds (its.toArray.size - 1) = its.dropLast.toArray
    rw [List.size_toArray, List.eraseIdxIfInBounds_toArray, erase_last]
  · rw [List.length_dropLast]
    omega

def rPopAt : V → List V → Hp → VK → Prop := fun x vs H Q => ∃ l xs i k y, x = .ref l ∧ vs = [.int i] ∧ H l = some (.lst xs) ∧ -(2 ^ 63) ≤ i ∧ i < 2 ^ 63 ∧ seqIndex? i xs.length = some k ∧ xs[k]? = some y ∧ Q y (upd H l (.lst (xs.eraseIdx k)))
theorem mt_popAt : MtM X "list.pop" rPopAt := by
  intro pins s σ H x vs v us Q I rx rv h
  obtain ⟨l, xs, i, k, y, rfl, rfl, hH, h1, h2, hk, hy, q⟩ := h
  cases rx
  obtain ⟨u, rfl, ru⟩ := rv.one
  obtain ⟨t, rfl⟩ := ru
  obtain ⟨z, its, n, r, hl, e⟩ := I.lstM hH
  obtain ⟨w, hw, rw'⟩ := r.get hy
  refine call_meets F.slot_list_pop ⟨_, e, rfl⟩ F.entry_list_pop (F.args_list_pop_2 _ _)
    (MeetsSeq.list_pop_at l its.toArray n i t k w (fitsIndex_both h1 h2) (by rw [List.size_toArray, ← hl]; exact hk) (by rw [← Array.getElem?_toList]; exact hw) (by rw [List.size_toArray]; omega)) ⟨e, ?_⟩
  refine ⟨y, _, I.lset (its' := its.eraseIdx k) hH e ?_ (r.eraseIdx k) ?_, rw', q⟩
  · show its.toArray.eraseIdxIfInBounds k = (its.eraseIdx k).toArray
    rw [List.eraseIdxIfInBounds_toArray]
  · have := len_erase xs k
    omega

def rReverse : V → List V → Hp → VK → Prop := fun x vs H Q => ∃ l xs, x = .ref l ∧ vs = [] ∧ H l = some (.lst xs) ∧ Q .non (upd H l (.lst xs.reverse))
theorem mt_reverse : MtM X "list.reverse" rReverse := by
  intro pins s σ H x vs v us Q I rx rv h
  obtain ⟨l, xs, rfl, rfl, hH, q⟩ := h
  cases rx
  have hus := rv.zero
  subst hus
  obtain ⟨z, its, n, r, hl, e⟩ := I.lstM hH
  refine call_meets F.slot_list_reverse ⟨_, e, rfl⟩ F.entry_list_reverse (F.args_list_reverse_1 _) (AutoSeq1.list_reverse_list_0 l its.toArray n (by rw [List.size_toArray]; omega)) ⟨e, ?_⟩
  refine ⟨.non, _, I.lset (its' := its.reverse) hH e (by simp) r.reverse ?_, rfl, q⟩
  rw [List.length_reverse]
  omega

def rClear : V → List V → Hp → VK → Prop := fun x vs H Q => ∃ l xs, x = .ref l ∧ vs = [] ∧ H l = some (.lst xs) ∧ Q .non (upd H l (.lst []))
theorem mt_clear : MtM X "list.clear" rClear := by
  intro pins s σ H x vs v us Q I rx rv h
  obtain ⟨l, xs, rfl, rfl, hH, q⟩ := h
  cases rx
  have hus := rv.zero
  subst hus
  obtain ⟨z, its, n, r, hl, e⟩ := I.lstM hH
  refine call_meets F.slot_list_clear ⟨_, e, rfl⟩ F.entry_list_clear (F.args_list_clear_1 _) (AutoSeq1.list_clear_list_0 l its.toArray n (by rw [List.size_toArray]; omega)) ⟨e, ?_⟩
  exact ⟨.non, _, I.lset (its' := []) (ys := []) hH e rfl .nil (Nat.zero_le _), rfl, q⟩

/-! ### list + list, list += list, list * int -/
def rCat : R2 := fun x y H Q => ∃ l b xs zs, x = .ref l ∧ y = .ref b ∧ H l = some (.lst xs) ∧ H b = some (.lst zs) ∧ xs.length + zs.length ≤ sizeLine ∧ ∀ p, H p = none → Q (.ref p) (upd H p (.lst (xs ++ zs)))
theorem op_cat : OpR X (binaryOp .Add) rCat := by
  intro pins s σ H x y v u Q I rx ry h
  obtain ⟨l, b, xs, zs, rfl, rfl, hH, hB, hz, q⟩ := h
  cases rx
  cases ry
  obtain ⟨z, its, n, r, hl, e⟩ := I.lstM hH
  obtain ⟨z2, its2, n2, r2, hl2, e2⟩ := I.lstM hB
  refine PySem.P.add_list e e2 ?_ (by rw [List.size_toArray, List.size_toArray]; omega)
  have ea : its.toArray ++ its2.toArray = (its ++ its2).toArray := by simp
  rw [ea]
  exact ⟨.ref _, _, I.lnew (t' := s.toks) (r.append r2) (by rw [List.length_append]; omega), rfl, q _ I.fresh⟩
/-- a list times an int (a negative one is nothing) -/
def rRep : R2 := fun x y H Q => ∃ l k xs, x = .ref l ∧ y = .int k ∧ H l = some (.lst xs) ∧ -(2 ^ 63) ≤ k ∧ k < 2 ^ 63 ∧ xs.length * k.toNat ≤ sizeLine ∧
  ∀ p, H p = none → Q (.ref p) (upd H p (.lst (List.replicate k.toNat xs).flatten))
theorem len_rep {α : Type} (xs : List α) (k : Nat) : (List.replicate k xs).flatten.length = k * xs.length := by
  induction k with
  | zero => simp
  | succ k ih => rw [List.replicate_succ, List.flatten_cons, List.length_append, ih, Nat.succ_mul, Nat.add_comm]
theorem op_rep : OpR X (binaryOp .Mult) rRep := by
  intro pins s σ H x y v u Q I rx ry h
  obtain ⟨l, k, xs, rfl, rfl, hH, h1, h2, hz, q⟩ := h
  cases rx
  obtain ⟨t, rfl⟩ := ry
  obtain ⟨z, its, n, r, hl, e⟩ := I.lstM hH
  have hlen : its.toArray.size * k.toNat ≤ sizeLine := by rw [List.size_toArray, ← hl]; exact hz
  have hcap : ¬ its.toArray.size * k.toNat > (2 ^ 63 - 1) / 8 := by
    have : (sizeLine : Nat) ≤ (2 ^ 63 - 1) / 8 := by decide
    omega
  have hfit : ¬ (!Builtin.List.listFitsIndex k) = true := by
    rw [fitsIndex_both h1 h2]
    exact Bool.false_ne_true
  have hlong : ¬ Builtin.List.listTooLong (its.toArray.size * k.toNat) = true := by
    rw [notLongL hlen]
    exact Bool.false_ne_true
  have hnew : List.foldl (fun x1 x2 => x1 ++ x2) #[] (List.replicate (if its.toArray.isEmpty = true then 0 else k.toNat) its.toArray) = (List.replicate k.toNat its).flatten.toArray := by
    have f0 : ∀ m : Nat, List.foldl (fun x1 x2 => x1 ++ x2) #[] (List.replicate m its.toArray) = (List.replicate m its).flatten.toArray := fun m => by
      have := foldl_rep its m []
      rw [List.nil_append] at this
      exact this
    rw [f0]
    cases its with
    | nil => simp
    | cons a r' => rw [if_neg (by simp)]
  refine wpAny_binaryOp_repeat_ref (T := "list") (U := "int") (by decide) ⟨_, e, rfl⟩ (fun s' => typeIs_int s' k t) noFill_list_mul F.fills_int_mul F.slot_int_rmul repeat_list F.slot_int_index.lookup
    (call_meets F.slot_int_rmul (typeIs_int s k t) F.entry_int_rmul (F.args_int_rmul_2 _ _) (int___rmul___int_list k t l its.toArray n)
      ⟨e, rfl, ⟨_, e, rfl⟩, call_meets F.slot_list_mul ⟨_, e, rfl⟩ F.entry_list_mul (F.args_list_mul_2 _ _) (AutoListH.list___mul___list_int_3 l its.toArray n k t hfit hcap hlong) ⟨e, ?_⟩⟩)
  rw [hnew]
  exact ⟨.ref _, _, I.lnew (t' := s.toks) (r.rep k.toNat) (by rw [len_rep, Nat.mul_comm]; exact hz), rfl, q _ I.fresh⟩

/-! ### del xs[i] -/
theorem del_list {pins : List (Addr × Obj)} {s : Shared} {σ : St} {H : Hp} {l : Addr} {xs : List V} {i : Int} {t : Tok} {k : Nat} {Q : Unit → Shared → Prop} (I : Inv X pins σ H s) (hH : H l = some (.lst xs))
    (h1 : -(2 ^ 63) ≤ i) (h2 : i < 2 ^ 63) (hk : seqIndex? i xs.length = some k) (h : ∀ s', Inv X pins σ (upd H l (.lst (xs.eraseIdx k))) s' → Q () s') :
    wpAny (model X.prog X.w) X.A (delItem (.ref l) (.int i t)) Q X.xe s := by
  obtain ⟨z, its, n, r, hl, e⟩ := I.lstM hH
  refine PySem.P.delItem_list (k := k) e (fitsIndex_both h1 h2) (by rw [List.size_toArray, ← hl]; exact hk) (h _ ?_) (by rw [List.size_toArray]; omega)
  refine I.lset (its' := its.eraseIdx k) (t' := s.toks) hH e ?_ (r.eraseIdx k) ?_
  · show its.toArray.eraseIdxIfInBounds k = (its.eraseIdx k).toArray
    rw [List.eraseIdxIfInBounds_toArray]
  · have := len_erase xs k
    omega
end

/-! ### xs[a:b] = ys -/
section
variable {prog : Program} {w : World} {A : Around} {E : Value → Shared → Prop} {s : Shared}
theorem splice_eq (its its2 : List Value) (a c : Nat) : its.toArray.extract 0 a ++ its2.toArray ++ its.toArray.extract c its.toArray.size = (its.take a ++ its2 ++ its.drop c).toArray := by
  apply Array.toList_inj.mp
  first
    | (simp
       exact List.take_of_length_le (by simp))
    | simp [List.take_of_length_le]
    | simp
theorem bounds_run {a c n : Nat} (hac : a ≤ c) (hc : c ≤ n) : sliceBounds (some (a : Int)) (some (c : Int)) none n = ((a : Int), (c : Int), 1) := by
  simp only [sliceBounds, Option.getD_none]
  have h1 : ¬ ((a : Int) < 0) := by omega
  have h2 : ¬ ((c : Int) < 0) := by omega
  simp only [h1, h2, if_false, show (1 : Int) > 0 by decide, if_true]
  congr 1
  · omega
  · congr 1; omega
set_option maxRecDepth 100000 in
/-- list.__setitem__ with a slice of step one and another list -/
theorem setItem_slice {l b sl : Addr} {items new : Array Value} {n n2 : Nat} {vl vu : Value} {a c : Nat} {Q : Unit → Shared → Prop}
    (e : s.heap.get? l = some { cls := .type "list", data := .seq items n }) (e2 : s.heap.get? b = some { cls := .type "list", data := .seq new n2 }) (hne : l ≠ b)
    (hs : s.heap.IsSliceOf sl vl vu .none) (pl : IsPart vl (some (a : Int))) (pu : IsPart vu (some (c : Int))) (hac : a ≤ c) (hc : c ≤ items.size)
    (hsz : items.size + new.size ≤ sizeLine) (h : Q () { s with heap := s.heap.update l (Obj.mapSeq fun xs => xs.extract 0 a ++ new ++ xs.extract c xs.size) }) :
    wpAny (model prog w) A (setItem (.ref l) (.ref sl) (.ref b)) Q E s := by
  have hl : s.heap.IsList l items := PySem.IsL.isList e
  have hb : s.heap.IsList b new := PySem.IsL.isList e2
  obtain ⟨os, hos, hcs, hds⟩ := id hs
  have hTs : s.TypeIs (.ref sl) "slice" := ⟨os, hos, hcs⟩
  have hstep : ¬ ((rawPart none == rawInt 0) = true) := Bool.false_ne_true
  have hsame : Builtin.List.listSameRef (.ref l) (.ref b) = false := by
    unfold Builtin.List.listSameRef
    exact beq_eq_false_iff_ne.mpr hne
  have hmax : (max (a : Int) (c : Int)).toNat = c := by omega
  have hz' : ((fun xs : Array Value => xs.extract 0 a ++ new ++ xs.extract c xs.size) items).size ≤ sizeLine + 1 := by
    simp only [Array.size_append, Array.size_extract]
    omega
  unfold setItem
  try with_reducible refine wpAny_holding ?_
  first | refine wpAny_bind (wpAny_pure ?_) | skip
  refine wpAny_bind (wpAny_sequenceKey hl.typeIs (by decide) ?_)
  refine wpAny_bind (wpAny_callSpecial?_slot (name := Str.ofString "__setitem__") hl.typeIs slot_list_setitem
    (wpAny_call_entry slot_list_setitem hl.typeIs entry_list_setitem ?_ (args_list_setitem _ _ _)))
  show wpAny _ _ (Builtin.List.listSubscript? (.ref sl) >>= _) _ _ s
  refine wpAny_bind ?_
  unfold Builtin.List.listSubscript?
  refine wpAny_bind (wpAny_specialOf hTs slice_no_index ?_)
  simp only [Option.isNone_none, if_true]
  refine wpAny_pure ?_
  show wpAny _ _ (typeOf (.ref sl) >>= _) _ _ s
  refine wpAny_bind (wpAny_typeOf hTs ?_)
  first
    | rw [if_neg (by decide)]
    | refine PySem.W.KFB.if_not (by decide) ?_
  rw [listSliceParts_eq]
  refine wpAny_bind (wpAny_bind (wpAny_field hos hds (x := .none) rfl (wpAny_bind (wpAny_listPart .none ?_))))
  rw [if_neg hstep]
  refine wpAny_bind (wpAny_field hos hds (x := vl) rfl (wpAny_bind (wpAny_listPart pl ?_)))
  refine wpAny_bind (wpAny_field hos hds (x := vu) rfl (wpAny_bind (wpAny_listPart pu (wpAny_pure ?_))))
  first
    | simp only [hsame, Bool.false_eq_true, if_false]
    | refine PySem.W.KFB.if_not hsame ?_
    | (dsimp only
       rw [if_neg (by rw [hsame]; exact Bool.false_ne_true)])
  refine wpAny_bind (m := Builtin.List.listAllItems (.ref b) "must assign iterable to extended slice") ?_
  unfold Builtin.List.listAllItems
  refine wpAny_bind (wpAny_typeOf hb.typeIs ?_)
  first
    | refine PySem.W.KFB.if_so (by decide) ?_
    | rw [if_pos (by decide)]
    | simp only [beq_self_eq_true, Bool.true_or, if_true]
  unfold Builtin.List.listItems
  refine wpAny_bind (wpAny_seqItems e2 rfl (wpAny_pure ?_))
  refine wpAny_bind (wpAny_bind (wpAny_seqItems e rfl (wpAny_pure ?_)))
  refine wpAny_bind (wpAny_of_eq ((sliceIndices_raw (some (a : Int)) (some (c : Int)) none items.size (by simp)).trans (congrArg (pure : Int × Int × Int → Sem (Int × Int × Int)) (bounds_run hac hc))) ?_)
  show wpAny _ _ (if ((1 : Int) == 1) = true then _ else _) _ _ s
  rw [if_pos (by decide)]
  refine wpAny_bind (wpAny_rule ?_)
  first
    | simp only [notLongL hsz, Bool.false_eq_true, if_false]
    | refine PySem.W.KFB.if_not (notLongL hsz) ?_
  first | refine wpAny_bind (wpAny_pure ?_) | skip
  show wpAny _ _ (updateSeq l (fun xs => xs.extract 0 ((a : Int)).toNat ++ new ++ xs.extract (max (a : Int) (c : Int)).toNat xs.size) >>= _) _ _ s
  rw [hmax, Int.toNat_natCast]
  refine wpAny_bind (wpAny_updateSeq (hz := Nat.le_trans (Nat.le_add_right _ _) hsz) (_hz' := hz') e rfl ?_)
  refine wpAny_bind (wpAny_letGo ?_)
  first
    | exact wpAny_bind (wpAny_pure (wpAny_pure ⟨.none, rfl, wpAny_pure h⟩))
    | exact wpAny_pure ⟨.none, rfl, wpAny_pure h⟩
end

section
variable {X : Cx}
/-- xs[a:c] = ys of another list, at the value level: sl is the slice object that was just made -/
theorem set_slice {pins : List (Addr × Obj)} {s : Shared} {σ : St} {H : Hp} {l b sl : Addr} {xs ys : List V} {a c : Int} {vl vu : Value} {Q : Unit → Shared → Prop} (I : Inv X pins σ H s)
    (hH : H l = some (.lst xs)) (hB : H b = some (.lst ys)) (hne : l ≠ b) (hs : s.heap.IsSliceOf sl vl vu .none) (ra : RelV (.int a) vl) (rc : RelV (.int c) vu) (h0 : 0 ≤ a) (hac : a ≤ c) (hc : c ≤ xs.length)
    (hz : xs.length + ys.length ≤ sizeLine) (h : ∀ s', Inv X pins σ (upd H l (.lst (xs.take a.toNat ++ ys ++ xs.drop c.toNat))) s' → Q () s') :
    wpAny (model X.prog X.w) X.A (setItem (.ref l) (.ref sl) (.ref b)) Q X.xe s := by
  obtain ⟨ta, rfl⟩ := ra
  obtain ⟨tc, rfl⟩ := rc
  obtain ⟨z, its, n, r, hl, e⟩ := I.lstM hH
  obtain ⟨z2, its2, n2, r2, hl2, e2⟩ := I.lstM hB
  obtain ⟨a', rfl⟩ := Int.eq_ofNat_of_zero_le h0
  obtain ⟨c', rfl⟩ := Int.eq_ofNat_of_zero_le (Int.le_trans h0 hac)
  simp only [Int.toNat_natCast] at h
  refine setItem_slice (a := a') (c := c') e e2 hne hs (.int _ _) (.int _ _) (by omega) (by rw [List.size_toArray]; omega) (by rw [List.size_toArray, List.size_toArray]; omega) (h _ ?_)
  refine I.lset (its' := its.take a' ++ its2 ++ its.drop c') (t' := s.toks) hH e ?_ (Vals.append (Vals.append (r.take _) r2) (r.drop _)) ?_
  · exact splice_eq its its2 a' c'
  · rw [List.length_append, List.length_append, List.length_take, List.length_drop]
    omega
end
end L2

namespace Att
open PySem PySem.W PySem.Calls PyProof.Rows

/-! ### the script -/
theorem ints_of_wellAll {P : Params} {h : Heap} : ∀ (ns : List Int) (vs : List Value), WellAll P h vs (ns.map WData.int) → IntsAre vs ns := by
  intro ns
  induction ns with
  | nil =>
    intro vs w
    rw [List.map_nil] at w
    cases w
    exact .nil
  | cons n ns ih =>
    intro vs w
    rw [List.map_cons] at w
    cases w with
    | cons a b =>
      cases a
      exact .cons _ _ (ih _ b)

theorem script_of {l : OpenLaw} {n : Nat} (hn : l.most = some n) {P : Params} {h : Heap} {args : List WData} {vals : List Value}
    (hpre : l.row.toRowW.claim.pre args = true) (hwl : WellAll P h vals args) :
    ∃ a vs ns, vals = [Value.ref a] ∧ args = [WData.list (ns.map WData.int)] ∧ h.get? a = some { cls := .type "list", data := .seq vs.toArray } ∧ IntsAre vs ns ∧ ns.length ≤ n := by
  have hsh : WShape.hasAll [] args [.list .int] = true := (pre_splitW hpre).1
  have hc : l.pre.holds [] { args := args } = true := (pre_splitW hpre).2
  obtain ⟨d, r, rfl, h1, h2⟩ := hasAllW_cons hsh
  obtain rfl := hasAllW_nil h2
  obtain ⟨xs, rfl, h3⟩ := hasW_list h1
  obtain ⟨ns, rfl⟩ := items_int h3
  have hlen : ns.length ≤ n := by
    unfold OpenLaw.pre at hc
    have h4 : (WTm.not (.lt (.lit (.int (n : Int))) (.len (.arg 0)))).holds [] { args := [.list (ns.map .int)] } = true := by
      have h4 := (holds_andW hc).1
      rw [hn] at h4
      exact h4
    have h5 := condW_of h4 (w_not (w_lt w_lit (w_len_list (w_arg rfl))))
    rw [List.length_map] at h5
    refine Nat.le_of_not_lt fun q => ?_
    have q' : (n : Int) < ((ns.length : Nat) : Int) := by omega
    first
      | (rw [decide_eq_true q'] at h5; exact absurd h5 (by decide))
      | (simp at h5; omega)
  cases hwl with
  | cons w1 w2 =>
    cases w2
    cases w1 with
    | list ho hall => exact ⟨_, _, ns, rfl, rfl, ho, ints_of_wellAll ns _ hall, hlen⟩

theorem post_true (l : OpenLaw) (args : List WData) : l.row.toRowW.claim.post args (.bool true) args = true :=
  postW_of (r := l.row.toRowW) (X := (true == true))
    (show WShape.has [] (.bool true) .bool = true by first | rfl | decide | simp [WShape.has, WShape.arms, WShape.armsAll])
    (show (WTm.eq .res (.lit (.bool true))).value [] { args := args, res := some (.bool true), after := args } = some (.bool (true == true)) from w_eq_bool (w_res rfl) w_lit) rfl

/-! ### the attachment: holds_open's last premise (the goal 'hc' behind k_head) from a wpAny of the law's body -/
theorem attach {l : OpenLaw} {n : Nat} {q : Program} {loose : List Str} {XP : (Str → Option Value) → Heap → Prop} {YP : World → Heap → Prop} {d : DefRec} {x : Str}
    (hn : l.most = some n) (hdf : d.params.defaults = [])
    (hbind : ∀ pm cd doc v : Value, bindArgs (docDef d.name d.params d.body d.scope pm cd doc) ⟨[v], []⟩ = pure [(x, v)])
    (hx : d.scope.names.lookup x = some .local ∨ d.scope.names.lookup x = some .cell)
    (hk : d.scope.kind = .function) (hco : d.scope.isCoroutine = false) (hgen : d.scope.isGenerator = false)
    (body : ∀ (w : World) (s₀ s₁ s : Shared) (mg mb : Str → Option Value) (fa : Addr) (o : Obj) (pm cd doc : Value) (a : Addr) (vs : List Value) (ns : List Int),
      Ground q loose [] XP w s₀ mg mb s₁.heap → YP w s₁.heap →
      s₁.heap.get? fa = some o → o.data = .func (docDef d.name d.params d.body d.scope pm cd doc) → s₁.heap.CodeRec cd d.name → mg d.name = some (.ref fa) →
      s₁.heap.get? a = some { cls := .type "list", data := .seq vs.toArray } → IntsAre vs ns → ns.length ≤ n →
      s.gens = #[] → s.os = s₁.os →
      Fr s₁.heap s₁.heap.objs.size s.heap (bindL (envOfC d.name d.scope s₁.heap.objs.size fa cd).kindOf [(x, .ref a)] fun _ => none) →
      Cl s₁.heap.objs.size (cellsFrom (s₁.heap.objs.size + 1) d.scope.names []) s.heap (bindC (envOfC d.name d.scope s₁.heap.objs.size fa cd).kindOf [(x, .ref a)] fun _ => none) →
      wpAny (model l.prog w) (callerA.deeper (envOfC d.name d.scope s₁.heap.objs.size fa cd)) (execs d.body (envOfC d.name d.scope s₁.heap.objs.size fa cd))
        (fun f s' => f = .ret (.bool true) ∧ OldK s₁.heap s'.heap ∧ s'.os = s₁.os ∧ AllBare s'.gens) (fun _ _ => False) s) :
    WalkO q loose XP YP l.row.toRowW d [] (fun f vs => PySem.call f vs) := by
  intro w s₀ s₁ mg mb G Y fa o pm cd doc dV kV ho hd hcd hD hmg hg args vals as hpre hlay hrd hwl hlo
  obtain rfl : dV = .none := Dflts.none hD hdf
  obtain rfl : kV = .none := Dflts.noKw hD
  obtain ⟨a, vs, ns, rfl, rfl, hobj, hints, hlen⟩ := script_of hn hpre hwl
  refine enter_call ?_
  refine call_cells_ret (o := o) (by rw [depth_caller]; decide) ho (fd_plain hd) G.T.nolimit hcd (hbind pm cd doc (.ref a)) (fun y hy => ?_) (fun h₁ tk F X => ?_) hco hgen hk
  · obtain rfl : y = (x, Value.ref a) := List.mem_singleton.mp hy
    rcases hx with e | e
    · exact .inl e
    · exact .inr ⟨e, cellsFrom_some _ _ _ (.inl e)⟩
  · refine wpAny_mono (body w s₀ s₁ { s₁ with heap := h₁, toks := tk } mg mb fa o pm cd doc a vs ns G Y ho (fd_plain hd) hcd hmg hobj hints hlen hg rfl F X) (fun f s' hq => ?_) (fun _ _ hq => hq)
    obtain ⟨rfl, h2, h3, h4⟩ := hq
    exact ⟨.inl ⟨.bool true, .bool true, [], rfl, fun _ => rfl, .bool true, post_true l _, fun _ => ⟨List.Pairwise.nil, fun _ hm => (nomatch hm)⟩⟩, h2, h3, h4⟩

/-- the same from a codeAny of the CALL (for a layer whose function contracts speak of calls) -/
theorem attach_call {l : OpenLaw} {n : Nat} {q : Program} {loose : List Str} {XP : (Str → Option Value) → Heap → Prop} {YP : World → Heap → Prop} {d : DefRec}
    (hn : l.most = some n) (hdf : d.params.defaults = [])
    (call : ∀ (w : World) (s₀ s₁ : Shared) (mg mb : Str → Option Value) (fa : Addr) (o : Obj) (pm cd doc : Value) (a : Addr) (vs : List Value) (ns : List Int),
      Ground q loose [] XP w s₀ mg mb s₁.heap → YP w s₁.heap →
      s₁.heap.get? fa = some o → o.data = .func (docDef d.name d.params d.body d.scope pm cd doc) → s₁.heap.CodeRec cd d.name → mg d.name = some (.ref fa) →
      s₁.heap.get? a = some { cls := .type "list", data := .seq vs.toArray } → IntsAre vs ns → ns.length ≤ n → s₁.gens = #[] →
      codeAny (model l.prog w) callerA (.call (.ref fa) ⟨[.ref a], []⟩) (fun r s' => r = .ok (.ret (.bool true)) ∧ OldK s₁.heap s'.heap ∧ s'.os = s₁.os ∧ AllBare s'.gens) s₁) :
    WalkO q loose XP YP l.row.toRowW d [] (fun f vs => PySem.call f vs) := by
  intro w s₀ s₁ mg mb G Y fa o pm cd doc dV kV ho hd hcd hD hmg hg args vals as hpre hlay hrd hwl hlo
  obtain rfl : dV = .none := Dflts.none hD hdf
  obtain rfl : kV = .none := Dflts.noKw hD
  obtain ⟨a, vs, ns, rfl, rfl, hobj, hints, hlen⟩ := script_of hn hpre hwl
  refine enter_call (codeAny_mono (call w s₀ s₁ mg mb fa o pm cd doc a vs ns G Y ho (fd_plain hd) hcd hmg hobj hints hlen hg) fun r s' hq => ?_)
  obtain ⟨rfl, h2, h3, h4⟩ := hq
  exact ⟨.inl ⟨.bool true, .bool true, [], rfl, fun _ => rfl, .bool true, post_true l _, fun _ => ⟨List.Pairwise.nil, fun _ hm => (nomatch hm)⟩⟩, h2, h3, h4⟩

/-- the same where the top left finished generators (o_head chose holds_openN): nothing may have changed at all and no generator may be left -/
theorem attachN {l : OpenLaw} {n : Nat} {q : Program} {loose : List Str} {XP : (Str → Option Value) → Heap → Prop} {YP : World → Heap → Prop} {d : DefRec} {x : Str}
    (hn : l.most = some n) (hdf : d.params.defaults = [])
    (hbind : ∀ pm cd doc v : Value, bindArgs (docDef d.name d.params d.body d.scope pm cd doc) ⟨[v], []⟩ = pure [(x, v)])
    (hx : d.scope.names.lookup x = some .local ∨ d.scope.names.lookup x = some .cell)
    (hk : d.scope.kind = .function) (hco : d.scope.isCoroutine = false) (hgen : d.scope.isGenerator = false)
    (body : ∀ (w : World) (s₀ s₁ s : Shared) (mg mb : Str → Option Value) (fa : Addr) (o : Obj) (pm cd doc : Value) (a : Addr) (vs : List Value) (ns : List Int),
      Ground q loose [] XP w s₀ mg mb s₁.heap → YP w s₁.heap →
      s₁.heap.get? fa = some o → o.data = .func (docDef d.name d.params d.body d.scope pm cd doc) → s₁.heap.CodeRec cd d.name → mg d.name = some (.ref fa) →
      s₁.heap.get? a = some { cls := .type "list", data := .seq vs.toArray } → IntsAre vs ns → ns.length ≤ n →
      s.gens = #[] → s.os = s₁.os →
      Fr s₁.heap s₁.heap.objs.size s.heap (bindL (envOfC d.name d.scope s₁.heap.objs.size fa cd).kindOf [(x, .ref a)] fun _ => none) →
      Cl s₁.heap.objs.size (cellsFrom (s₁.heap.objs.size + 1) d.scope.names []) s.heap (bindC (envOfC d.name d.scope s₁.heap.objs.size fa cd).kindOf [(x, .ref a)] fun _ => none) →
      wpAny (model l.prog w) (callerA.deeper (envOfC d.name d.scope s₁.heap.objs.size fa cd)) (execs d.body (envOfC d.name d.scope s₁.heap.objs.size fa cd))
        (fun f s' => f = .ret (.bool true) ∧ (∀ b o, s₁.heap.get? b = some o → s'.heap.get? b = some o) ∧ s'.os = s₁.os ∧ s'.gens = #[]) (fun _ _ => False) s) :
    WalkN q loose XP YP l.row.toRowW d [] (fun f vs => PySem.call f vs) := by
  intro w s₀ s₁ mg mb G Y fa o pm cd doc dV kV ho hd hcd hD hmg hg args vals as hpre hlay hrd hwl hlo
  obtain rfl : dV = .none := Dflts.none hD hdf
  obtain rfl : kV = .none := Dflts.noKw hD
  obtain ⟨a, vs, ns, rfl, rfl, hobj, hints, hlen⟩ := script_of hn hpre hwl
  refine enter_callW ?_
  refine call_cells_ret (o := o) (by rw [depth_caller]; decide) ho (fd_plain hd) G.T.nolimit hcd (hbind pm cd doc (.ref a)) (fun y hy => ?_) (fun h₁ tk F X => ?_) hco hgen hk
  · obtain rfl : y = (x, Value.ref a) := List.mem_singleton.mp hy
    rcases hx with e | e
    · exact .inl e
    · exact .inr ⟨e, cellsFrom_some _ _ _ (.inl e)⟩
  · refine wpAny_mono (body w s₀ s₁ { s₁ with heap := h₁, toks := tk } mg mb fa o pm cd doc a vs ns G Y ho (fd_plain hd) hcd hmg hobj hints hlen hg rfl F X) (fun f s' hq => ?_) (fun _ _ hq => hq)
    obtain ⟨rfl, h2, h3, h4⟩ := hq
    exact ⟨.inl ⟨.bool true, .bool true, [], rfl, fun _ => rfl, .bool true, post_true l _, fun _ => ⟨List.Pairwise.nil, fun _ hm => (nomatch hm)⟩⟩, h2, h3, h4⟩

/-! ### rules over ANY heap (no ledger) from facts about the written part K: the library's own take a ledger (News) for what they write -/
section
variable {prog : Program} {w : World} {A : Around} {E : Value → Shared → Prop} {s : Shared} {K : Frag}

/-- a def of the module, or a method (qual 'C.m'), entered: the frame is the next address; cells behind it -/
theorem call_fn {R : Result → Shared → Prop} {name qual : Str} {params : Arguments} {body : List Stmt} {scope : Scope} {dV kV doc pm cdv ct oc : Value} {an od : Option Addr} {osl : Array (Option Value)} {f : Addr} {args : Args} {binds : List (Str × Value)}
    (X : K.In s.heap) (hlim : s.heap.NoLimit) (ho : K.lookup f = some ⟨oc, od, .func (fnOf name qual params body scope dV kV doc pm an cdv ct), osl⟩) (hcd : codeIn K cdv qual = true) (hroom : A.depth < recursionLimit)
    (hbind : BindsTo s (fnOf name qual params body scope dV kV doc pm an cdv ct) args binds)
    (hkind : (binds.all fun y => scope.names.lookup y.1 == some .local || scope.names.lookup y.1 == some .cell) = true)
    (h : ∀ s₁, InCallC s s.heap.objs.size (bindL (envOfC qual scope s.heap.objs.size f cdv).kindOf binds fun _ => none) (cellsFrom (s.heap.objs.size + 1) scope.names [])
        (bindC (envOfC qual scope s.heap.objs.size f cdv).kindOf binds fun _ => none) s₁ →
      wpAny (model prog w) (A.deeper (envOfC qual scope s.heap.objs.size f cdv)) (execs body (envOfC qual scope s.heap.objs.size f cdv))
        (fun fl s' => R (.ok (.ret (match fl with | .ret v => v | _ => .none))) s')
        (fun e s' => wpAny (model prog w) (A.deeper (envOfC qual scope s.heap.objs.size f cdv)) (leaving (envOfC qual scope s.heap.objs.size f cdv) e) (fun _ s'' => R (.error e) s'') (fun e' s'' => R (.error e') s'') s') s₁)
    (hco : scope.isCoroutine = false) (hgen : scope.isGenerator = false) (hk : scope.kind = .function) : codeAny (model prog w) A (.call (.ref f) args) R s := by
  refine codeAny_call_function hroom (X _ _ ho) rfl hco hgen rfl (codeRec_of X hcd) (hbind _ _ _ _ ?_)
  refine wpAny_newFunctionEnv_cells hk (kindsX hkind _) fun env he s₁ x => ?_
  subst he
  exact ⟨hlim.keeps x.toInCall.keep, codeAny_func (h s₁ x)⟩

/-- C(..): dict at size, instance at size + 1, then __init__ -/
theorem make_obj {R : Result → Shared → Prop} {C fI : Addr} {rest : List Value} {kw : List (Str × Value)}
    (X : K.In s.heap) (hm : makesIn K C = true) (hi : findIn K (.ref C) "__init__" = some (some (.ref fI))) (hf : isFn K (.ref fI) = true)
    (h : codeAny (model prog w) (A.under (.builtin "type.__call__" ⟨.ref C :: rest, kw⟩)) (.call (.ref fI) ⟨.ref (s.heap.objs.size + 1) :: rest, kw⟩) (InitBack (s.heap.objs.size + 1) R)
      { s with heap := (s.heap.push emptyDict).push (instObj C s.heap.objs.size) }) : codeAny (model prog w) A (.call (.ref C) ⟨rest, kw⟩) R s := by
  obtain ⟨hh, g, d, t, os⟩ := s
  exact make_core (makes_of X hm) (looks_findIn X hi) (fun self => bind_fn X self (beq_iff_eq.mp hf)) (.inl rfl) h

/-- x.name where the instance's dict holds the name and the class does not -/
theorem get_field {x C : Addr} {ox : Obj} {es : List DictEntry} {n : Nat} {name : Str} {expr : Bool} {v : Value} {Q : Value → Shared → Prop}
    (X : K.In s.heap) (I : PySem.W.InstAt s.heap x ox C (some (dictOf es n))) (hg : plainGet K C name = true) (hh : hasDictIn K C = true) (ha : findIn K (.ref C) name = some none)
    (hl : getL name es = some (some v)) (hv : handedIn v = true) (h : Q v { s with toks := s.toks + 1 }) : wpAny (model prog w) A (getAttr (.ref x) name expr) Q E s :=
  get_value X I (plainGet_of hg).1 (findObj_own hh ha rfl hl) hv h

/-- x.m(..): the method found in the class -/
theorem get_method {x C f : Addr} {ox : Obj} {es : List DictEntry} {n : Nat} {name : Str} {pl : Sem Bool} {Q : Value × List Value → Shared → Prop}
    (X : K.In s.heap) (I : PySem.W.InstAt s.heap x ox C (some (dictOf es n))) (hg : plainGet K C name = true) (hf : findIn K (.ref C) name = some (some (.ref f))) (ht : isFn K (.ref f) = true)
    (hl : getL name es = some none) (h : Q (.ref f, [.ref x]) s) : wpAny (model prog w) A (getMethod (.ref x) name pl) Q E s :=
  method_fn X I (plainGet_of hg).1 (plainGet_of hg).2 hf (beq_iff_eq.mp ht) (by show (lookIn name (dictOf es n)).map _ = _; rw [lookIn_dict, hl]; rfl) h

/-! the whole heap as the ledger: makes every rule that writes through a ledger a rule over any heap -/
def noObjs (h : Heap) : Heap := { h with objs := #[] }
theorem noObjs_get (h : Heap) (b : Addr) : (noObjs h).get? b = none := by
  cases e : (noObjs h).get? b with
  | none => rfl
  | some o => exact absurd (Heap.lt_size e) (Nat.not_lt_zero _)
def ledger (h : Heap) (L d : Addr) : List (Addr × Obj) := (List.range h.objs.size).filterMap fun a => if a = L ∨ a = d then none else (h.get? a).map fun o => (a, o)
theorem mem_ledger {h : Heap} {L d a : Addr} {o : Obj} : (a, o) ∈ ledger h L d ↔ a ≠ L ∧ a ≠ d ∧ h.get? a = some o := by
  unfold ledger
  rw [List.mem_filterMap]
  constructor
  · rintro ⟨b, _, e⟩
    split at e
    · cases e
    · rename_i hb
      obtain ⟨o', ho, e'⟩ := Option.map_eq_some_iff.mp e
      cases e'
      exact ⟨fun q => hb (.inl q), fun q => hb (.inr q), ho⟩
  · rintro ⟨n1, n2, ho⟩
    refine ⟨a, List.mem_range.mpr (Heap.lt_size ho), ?_⟩
    rw [if_neg (show ¬ (a = L ∨ a = d) from fun q => q.elim n1 n2), ho] <;> rfl
theorem news_ledger {h : Heap} {L d : Addr} {od : Obj} (hne : d ≠ L) (ho : h.get? d = some od) : News (noObjs h) L h ([] ++ (d, od) :: ledger h L d) := by
  rintro ⟨a, o⟩ hp
  rcases List.mem_cons.mp hp with e | hp
  · cases e
    exact ⟨ho, hne, noObjs_get _ _⟩
  · obtain ⟨n1, n2, e⟩ := mem_ledger.mp hp
    exact ⟨e, n1, noObjs_get _ _⟩
theorem fr_all {h : Heap} {L : Addr} {m : Str → Option Value} (n : h.Ns L m) : Fr (noObjs h) L h m :=
  ⟨n, fun b o e => (by rw [noObjs_get] at e; cases e), Nat.zero_le _⟩
/-- Upd of the head entry (for append_K, setItem_K ..) -/
theorem upd_ledger {h : Heap} {L d : Addr} {o o' : Obj} : Upd d o o' ((d, o) :: ledger h L d) ((d, o') :: ledger h L d) :=
  .head fun ⟨_, _⟩ hp => (mem_ledger.mp hp).2.1

/-- x.name = v over any heap: L is any namespace of the heap (the frame's, say): its map stays, its object is not told; all else but the dict stays -/
theorem set_field {x C dx L : Addr} {ox : Obj} {m : Str → Option Value} {es es' : List DictEntry} {n n' : Nat} {name : Str} {v : Value} {Q : Unit → Shared → Prop}
    (X : K.In s.heap) (I : PySem.W.InstAt s.heap x ox C (some (dictOf es n))) (hd : ox.dict = some dx) (hL : s.heap.Ns L m) (hne : dx ≠ L)
    (hs : findIn K (.ref C) "__setattr__" = some (some (.builtin "object.__setattr__"))) (hp : plainOver K C = true) (ht : takerIn K C name = some none) (hh : hasDictIn K C = true) (hl : (getL name es).isSome = true)
    (e : (putL name (PyData.keyHash w.params name) (.str name (s.toks + 1)) v es, putN name es n) = (es', n')) (hz : es'.length ≤ 1000)
    (h : ∀ h' : Heap, h'.Ns L m → h'.get? dx = some (dictOf es' n') → (∀ b o, b ≠ dx → b ≠ L → s.heap.get? b = some o → h'.get? b = some o) → Q () { s with heap := h', toks := s.toks + 2 }) :
    wpAny (model prog w) A (setAttr (.ref x) name v) Q E s := by
  obtain ⟨e1, e2⟩ := Prod.mk.inj e
  have hdx : s.heap.get? dx = some (dictOf es n) := by
    have := I.dict
    rw [hd] at this
    exact this
  refine set_plain X I hs (osa_dict (s := { s with toks := s.toks + 1 }) (h₀ := noObjs s.heap) (L := L) (m := m) (od := dictOf es n) (od' := dictOf es' n') (es := es') (n := n') (pre := []) (post := ledger s.heap L dx)
    (fr_all hL) (news_ledger hne hdx) X I hd hp ht hh hl (fun _ q => nomatch q) (fun ⟨_, _⟩ q => (mem_ledger.mp q).2.1) (by rw [putName_dict, e1, e2]) rfl hz fun h' F' N' => ?_)
  exact h h' F'.ns (N'.get (List.Mem.head _)) fun b o n1 n2 ho => N'.get (List.Mem.tail _ (mem_ledger.mpr ⟨n2, n1, ho⟩))
end
end Att

namespace L2
open PySem PySem.Spec PyProof.Rows

theorem vals_ints : ∀ {vs : List Value} {ns : List Int}, IntsAre vs ns → Vals (ns.map V.int) vs
  | _, _, .nil => .nil
  | _, _, .cons n t h => .cons ⟨t, rfl⟩ (vals_ints h)

/-- nothing is tracked but the script, known to the object (or it is an object of the module) -/
def Only (H : Hp) : Prop := ∀ b, H b = none ∨ ∃ o xs, H b = some (.frz o (.lst xs))

/-- THE HEAD: the law's promise, at the heap behind the top. F, the promise of the law's def, may use that base is part of the heap (so K.In base, base.Ns mainGlobals mg stand in Mod) -/
theorem law_call {P : Program} {w : World} {K : PySem.W.Frag} {mg mb : Str → Option Value} {CX : CXT} {k : Nat} {fa a : Addr} {fd : FuncData} {x : Str} {sp : Sp} {s₁ : Shared} {vs : List Value} {ns : List Int}
    (KX : K.In s₁.heap) (hns : s₁.heap.Ns mainGlobals mg) (hb : s₁.heap.Ns builtinsNs mb) (hbb : ∀ x : Str, x ≠ "__name__" → mb x = bootBuiltins x) (hlim : s₁.heap.NoLimit) (hg : s₁.gens = #[])
    (ha : s₁.heap.get? a = some { cls := .type "list", data := .seq vs.toArray }) (hi : IntsAre vs ns) (hl : ns.length ≤ sizeLine) (hr : Room k callerA)
    (F : ∀ base : Heap, K.In base → base.Ns mainGlobals mg → FnOk P w K mg base CX k fa fd [x] sp) (hbind : ∀ (s : Shared) (u : Value), BindsTo s fd ⟨[u], []⟩ [(x, u)])
    (hsp : ∀ H : Hp, Only H → SqL K H a (ns.map V.int) → sp [.ref a] H (fun v _ => v = .bl true) fun _ _ _ => False)
    (hCX : ∀ H e s', CX [] H s₁ (fun _ _ _ => False) e s' → False) :
    codeAny (model P w) callerA (.call (.ref fa) ⟨[.ref a], []⟩) (fun r s' => r = .ok (.ret (.bool true)) ∧ OldK s₁.heap s'.heap ∧ s'.os = s₁.os ∧ AllBare s'.gens) s₁ := by
  have rv := vals_ints hi
  have lenV := hi.length
  -- from an abstract heap in which nothing but the script may be tracked
  have core : ∀ H : Hp, Only H → SqL K H a (ns.map V.int) → HOk P w H s₁.heap → (∀ b, H b ≠ none → b = a) → (H a ≠ none → K.lookup a = none) →
      codeAny (model P w) callerA (.call (.ref fa) ⟨[.ref a], []⟩) (fun r s' => r = .ok (.ret (.bool true)) ∧ OldK s₁.heap s'.heap ∧ s'.os = s₁.os ∧ AllBare s'.gens) s₁ := by
    intro H hO hS hok hA hK
    have base_of : ∀ {b : Addr} {o : Obj}, s₁.heap.get? b = some o → H b = none → (hidT s₁.heap H).get? b = some o := fun e n => hidT_get e n
    have noA : ∀ {b : Addr} {o : Obj} {es : Array DictEntry} {ep : Nat}, s₁.heap.get? b = some o → o.data = .dict es ep → H b = none := fun {b o es ep} e d => by
      cases q : H b with
      | none => rfl
      | some u =>
        have e' : b = a := hA b (by rw [q]; simp)
        subst e'
        rw [ha] at e; cases e
        have d' : Data.seq vs.toArray _ = Data.dict es ep := d
        cases d'
    have nsK : ∀ {b : Addr} {m : Str → Option Value}, s₁.heap.Ns b m → (hidT s₁.heap H).Ns b m := fun {b m} ⟨o, es, ep, e, d, r⟩ => ⟨o, es, ep, base_of e (noA e d), d, r⟩
    have hKb : K.In (hidT s₁.heap H) := fun b o e => base_of (KX b o e) (by
      cases q : H b with
      | none => rfl
      | some u =>
        have e' : b = a := hA b (by rw [q]; simp)
        subst e'
        rw [hK (by rw [q]; simp)] at e; cases e)
    have hM : Mod K mg (hidT s₁.heap H) := ⟨hKb, nsK hns, ⟨mb, nsK hb, hbb⟩, let ⟨mc, h1, h2⟩ := hlim; ⟨mc, nsK h1, h2⟩⟩
    have e0 : Env0 P w K mg (hidT s₁.heap H) callerA [] s₁ H := ⟨rfl, hM, fun b o e => of_hidT e, Nat.le_of_eq (hidT_size _ _), trivial, fun b hb => absurd (show b ∈ ([] : List Addr) from hb) (by simp), hok, .of_eq hg⟩
    refine codeAny_mono ((F _ hKb (nsK hns)).run callerA [] s₁ H ⟨[.ref a], []⟩ [.ref a] [.ref a] _ _ hr e0 (hbind s₁ (.ref a)) (.cons rfl .nil) (hsp H hO hS)) fun r s' h => ?_
    cases r with
    | error e => exact (hCX H e s' h).elim
    | ok fl =>
      cases fl with
      | next => exact False.elim h
      | brk => exact False.elim h
      | cont => exact False.elim h
      | ret u =>
        obtain ⟨v, H', os, bare, un, hok', r', q⟩ := h
        have q' : v = .bl true := q
        subst q'
        obtain rfl : u = Value.bool true := r'
        refine ⟨rfl, OldK.of_keep fun b o e => ?_, os, bare⟩
        cases q : H b with
        | none => exact un.keep b o e q (by intro z; exact absurd (show b ∈ ([] : List Addr) from z) (by simp)) (by simp)
        | some u =>
          rcases hO b with z | ⟨ob, xs, z⟩
          · rw [q] at z; cases z
          · have z2 := un.frzs b ob _ z
            obtain ⟨e1, _⟩ := hok b _ z
            obtain ⟨e2, _⟩ := hok' b _ z2
            rw [e] at e1; cases e1
            exact e2
  cases hk : K.lookup a with
  | some o =>
    -- the script is one of the module's own objects
    have e := KX a o hk
    rw [ha] at e
    cases e
    refine core (fun _ => none) (fun _ => .inl rfl) (.inr ⟨_, vs.toArray, _, hk, rfl, rfl, rfl, by rw [List.size_toArray, lenV]; exact hl, by simpa using rv⟩) (fun b u z => by have z' : (none : Option HO) = some u := z; cases z') (fun b z => absurd rfl z) fun z => absurd rfl z
  | none =>
    refine core (fun b => if b = a then some (.frz { cls := .type "list", data := .seq vs.toArray } (.lst (ns.map V.int))) else none) (fun b => ?_) (.inl (.inr ⟨{ cls := .type "list", data := .seq vs.toArray }, if_pos rfl⟩)) (fun b u z => ?_) (fun b z => ?_) fun _ => hk
    · by_cases hb : b = a
      · exact .inr ⟨_, _, if_pos hb⟩
      · exact .inl (if_neg hb)
    · by_cases hb : b = a
      · have z' := (if_pos hb).symm.trans z
        cases z'
        subst hb
        exact ⟨ha, by rw [List.length_map]; exact hl, vs, _, rv, ha⟩
      · have z' := (if_neg hb).symm.trans z
        cases z'
    · by_cases hb : b = a
      · exact hb
      · exact absurd (if_neg hb) z
end L2

namespace L2
open PySem PySem.Spec PyProof.Rows

abbrev KOf {K : PySem.W.Frag} {h : Heap} (_ : K.In h) : PySem.W.Frag := K

/-- the goal that k_head leaves (case hc), from the law's promise. F gives the function object fd (K's own) once, then the promise over every base -/
theorem walk_of {l : PySem.W.OpenLaw} {n k : Nat} {q : Program} {loose : List Str} {XP : (Str → Option Value) → Heap → Prop} {YP : World → Heap → Prop} {d : DefRec} {K : Params → PySem.W.Frag} {CX : World → CXT} {sp : World → Sp} {x : Str}
    (hn : l.most = some n) (hn2 : n ≤ sizeLine) (hdf : d.params.defaults = []) (hr : Room k callerA)
    (hY : ∀ (w : World) (h : Heap), YP w h → (K w.params).In h)
    (F : ∀ (w : World) (mg : Str → Option Value) (fa : Addr) (h : Heap), (K w.params).In h → h.Ns mainGlobals mg → mg d.name = some (.ref fa) →
      ∃ fd : FuncData, (∀ (s : Shared) (u : Value), BindsTo s fd ⟨[u], []⟩ [(x, u)]) ∧
        ∀ base : Heap, (K w.params).In base → base.Ns mainGlobals mg → FnOk l.prog w (K w.params) mg base (CX w) k fa fd [x] (sp w))
    (hsp : ∀ (w : World) (H : Hp) (a : Addr) (ns : List Int), ns.length ≤ n → Only H → SqL (K w.params) H a (ns.map V.int) → sp w [.ref a] H (fun v _ => v = .bl true) fun _ _ _ => False)
    (hCX : ∀ (w : World) (H : Hp) (s : Shared) (e : Value) (s' : Shared), CX w [] H s (fun _ _ _ => False) e s' → False) :
    PySem.W.WalkO q loose XP YP l.row.toRowW d [] (fun f vs => PySem.call f vs) := by
  refine Att.attach_call hn hdf fun w s₀ s₁ mg mb fa o pm cd doc a vs ns G Y ho hd hcd hmg hobj hints hlen hg => ?_
  have KX := hY w _ Y
  obtain ⟨fd, hb, hF⟩ := F w mg fa _ KX G.T.g hmg
  exact law_call KX G.T.g G.T.b G.T.builtins G.T.nolimit hg hobj hints (Nat.le_trans hlen hn2) hr hF hb (fun H hO hS => hsp w H a ns hlen hO hS) fun H e s' => hCX w H s₁ e s'
/-- the same where the promise hangs on the written part alone: (sp := My.sp_law), no hole under a binder -/
theorem walk_ofK {l : PySem.W.OpenLaw} {n k : Nat} {q : Program} {loose : List Str} {XP : (Str → Option Value) → Heap → Prop} {YP : World → Heap → Prop} {d : DefRec} {K : Params → PySem.W.Frag} {CX : CXT} {sp : PySem.W.Frag → Sp} {x : Str}
    (hn : l.most = some n) (hn2 : n ≤ sizeLine) (hdf : d.params.defaults = []) (hr : Room k callerA)
    (hY : ∀ (w : World) (h : Heap), YP w h → (K w.params).In h)
    (F : ∀ (w : World) (mg : Str → Option Value) (fa : Addr) (h : Heap), (K w.params).In h → h.Ns mainGlobals mg → mg d.name = some (.ref fa) →
      ∃ fd : FuncData, (∀ (s : Shared) (u : Value), BindsTo s fd ⟨[u], []⟩ [(x, u)]) ∧
        ∀ base : Heap, (K w.params).In base → base.Ns mainGlobals mg → FnOk l.prog w (K w.params) mg base CX k fa fd [x] (sp (K w.params)))
    (hsp : ∀ (K : PySem.W.Frag) (H : Hp) (a : Addr) (ns : List Int), ns.length ≤ n → Only H → SqL K H a (ns.map V.int) → sp K [.ref a] H (fun v _ => v = .bl true) fun _ _ _ => False)
    (hCX : ∀ (H : Hp) (s : Shared) (e : Value) (s' : Shared), CX [] H s (fun _ _ _ => False) e s' → False) :
    PySem.W.WalkO q loose XP YP l.row.toRowW d [] (fun f vs => PySem.call f vs) :=
  walk_of (K := K) (CX := fun _ => CX) (sp := fun w => sp (K w.params)) hn hn2 hdf hr hY F (fun w H a ns h1 h2 h3 => hsp (K w.params) H a ns h1 h2 h3) fun _ H s e s' => hCX H s e s'
end L2

/- THE LAST THEOREM (shape; LID, My.* are yours):
   My.Adr: a structure of the addresses that your layer names (classes, functions); My.Txt K t: a structure (Prop) of the equations over K;
   My.txt_mk : {K} {implicit addresses ..} (e1 : nsIn K mainGlobals "law" = some (some (.ref f))) (e2 : K.lookup f = some ⟨oc, od, .func (fnOf "law" "law" params body scope dV kV doc pm an cdv ct), sl⟩) (e3 : codeIn K cdv "law" = true) .. : ∃ t, My.Txt K t

set_option maxRecDepth 100000 in
set_option maxHeartbeats 0 in
theorem PySem.Challenge.cw_LID_holds : PySem.Challenge.rw_LID.Holds := by
  w_on; o_law; k_head; (case hw => w_witness2)
  k_fill
  refine L2.walk_of (l := PySem.Challenge.rw_LID) (n := 63) (k := 40) (x := "script") (CX := fun w => ..) (sp := fun _ => My.sp_law) rfl (by decide) rfl ⟨rfl, by decide, by decide⟩ (fun w h Y => PySem.W.kIn_of Y) ?F ?S ?C
  case F =>
    intro w mg fa h KX G hmg
    have T : ∃ t, My.Txt (L2.KOf KX) t := by
      dsimp only [L2.KOf]                          -- K must stand as «<heap const> w.params» for k_is
      refine' My.txt_mk ?e1 ?e2 ?e3 ..
      (case e1 => PySem.W.k_is)                    -- in the order: a name -> its address -> its object -> its parts
      (case e2 => PySem.W.k_is)
      ..
    obtain ⟨t, T⟩ := T
    have e0 := hmg.symm.trans (PySem.W.mg_of KX G T.law)
    cases e0                                       -- fa is the law's own address
    exact ⟨_, fun s u => .of_eq rfl, fun base kb nb => My.law_fn T kb nb⟩     -- if «.of_eq rfl» comes too early: refine' ⟨_, ?b, fun base kb nb => My.law_fn T kb nb⟩; exact fun s u => .of_eq rfl
  case S => exact fun w H a ns hl hO hS => ..
  case C => exact ..
(the tactic k_is has no namespace: write k_is) -/

/-! SHORT WORDS over the layer: a def of the text, its body, what a loop and a test want. -/
namespace L2
open PySem PySem.Spec PyProof.Rows

/-! ### the text by places -/
/-- the j-th statement of a class's body -/
def inClass (s : Stmt) (j : Nat) : Stmt := match s with
  | .ClassDef _ _ _ body _ _ _ _ _ _ _ => body.getD j (.Pass ⟨0, 0, 0, 0⟩)
  | _ => .Pass ⟨0, 0, 0, 0⟩
def defArgs (s : Stmt) : Arguments := match s with
  | .FunctionDef _ a _ _ _ _ _ _ _ _ => a
  | _ => { posonlyargs := [], args := [], vararg := none, kwonlyargs := [], kw_defaults := [], kwarg := none, defaults := [] }
def defBody (s : Stmt) : List Stmt := match s with
  | .FunctionDef _ _ b _ _ _ _ _ _ _ => b
  | _ => []
def defScope (s : Stmt) : Scope := match s with
  | .FunctionDef _ _ _ _ _ _ sc _ _ _ => sc
  | _ => { kind := .function, names := [], isGenerator := false, isCoroutine := false }

/-! ### no exception leaves a def -/
abbrev CX0 : CXT := fun _ _ _ _ _ _ => False
abbrev E0 : XK := fun _ _ _ => False
theorem pass0 {X : Cx} : Passes CX0 X E0 := fun _ _ _ _ _ _ _ h => h.elim

/-! ### a def (or method) of the text as it stands behind the top -/
structure Fun (K : PySem.W.Frag) (x qual : Str) (st : Stmt) (f : Addr) (fd : FuncData) : Prop where
  ex : ∃ (oc : Value) (od : Option Addr) (kV doc pm : Value) (an : Option Addr) (cdv ct : Value) (osl : Array (Option Value)),
    fd = PySem.W.fnOf x qual (defArgs st) (defBody st) (defScope st) .none kV doc pm an cdv ct ∧ K.lookup f = some ⟨oc, od, .func fd, osl⟩ ∧ PySem.W.codeIn K cdv qual = true
  kp : PySem.W.keepIn K (.ref f) = true
section
variable {P : Program} {w : World} {K : PySem.W.Frag} {mg : Str → Option Value} {base : Heap}
/-- THE RULE for a def: its body as a term of rules, and the reading of that term -/
theorem Fun.ok {x qual : Str} {st : Stmt} {f : Addr} {fd : FuncData} {N ps : List Str} {k : Nat} {sp : Sp} (F : Fun K x qual st f fd) (S : FnScope N ps (defScope st)) (len : ∀ vs H Q E, sp vs H Q E → vs.length = ps.length)
    (hbody : ∀ (cdv : Value) (A : Around) (outer : List Env) (s : Shared) (H : Hp) (vs : List V) (Q : VK) (E : XK), Room k (A.deeper (envOfC qual (defScope st) s.heap.objs.size f cdv)) → sp vs H Q E →
      ∃ t, PSs (cxOf CX0 P w K mg base N qual (defScope st) f cdv A outer s H E).nox (defBody st) t ∧ t { nx := fun _ H' => Q .non H', rt := Q } (start N vs) H) : FnOk P w K mg base CX0 (k + 1) f fd ps sp := by
  obtain ⟨oc, od, kV, doc, pm, an, cdv, ct, osl, rfl, lk, hcd⟩ := F.ex
  refine fn_of lk hcd S len fun A outer s H vs Q E hr hsp => ?_
  obtain ⟨t, h, q⟩ := hbody cdv A outer s H vs Q E hr hsp
  exact ⟨t, h.nox, q⟩
/-- how its arguments bind (no defaults): h is «fun _ _ _ _ _ _ us hl => match us, hl with | [_, _], _ => rfl», one _ a parameter -/
theorem Fun.binds {x qual : Str} {st : Stmt} {f : Addr} {fd : FuncData} {ps : List Str} (F : Fun K x qual st f fd)
    (h : ∀ (kV doc pm : Value) (an : Option Addr) (cdv ct : Value) (us : List Value), us.length = ps.length → bindArgs (PySem.W.fnOf x qual (defArgs st) (defBody st) (defScope st) .none kV doc pm an cdv ct) ⟨us, []⟩ = pure (ps.zip us)) : Binds K fd ps [] := by
  obtain ⟨oc, od, kV, doc, pm, an, cdv, ct, osl, rfl, lk, hcd⟩ := F.ex
  exact .all (h kV doc pm an cdv ct)
theorem fun_mk {x qual : Str} {st : Stmt} {f : Addr} {oc : Value} {od an : Option Addr} {osl : Array (Option Value)} {kV doc pm cdv ct : Value} (l : K.lookup f = some ⟨oc, od, .func (PySem.W.fnOf x qual (defArgs st) (defBody st) (defScope st) .none kV doc pm an cdv ct), osl⟩)
    (c : PySem.W.codeIn K cdv qual = true) (k : PySem.W.keepIn K (.ref f) = true) : Fun K x qual st f (PySem.W.fnOf x qual (defArgs st) (defBody st) (defScope st) .none kV doc pm an cdv ct) := ⟨⟨oc, od, kV, doc, pm, an, cdv, ct, osl, rfl, l, c⟩, k⟩
end
theorem hu_of {A : Around} {k : Nat} (hr : Room k A) : A.units + 1 < cLine := Nat.lt_of_le_of_lt (Nat.add_le_add_left (by decide : 1 ≤ 64) _) hr.units
theorem small1000 {n : Nat} (h : n ≤ 1000) : n < sizeLine := Nat.lt_of_le_of_lt h (by decide)

/-! ### expressions in short: the name that stands in the i-th slot -/
section
variable {X : Cx}
theorem pv (i : Nat) {x : Str} {pos : Pos} (hN : X.N[i]? = some x := by rfl) (hv : Vis X.env.scope x := by first | exact Or.inl rfl | exact Or.inr (Or.inl rfl) | exact Or.inr (Or.inr rfl)) (hd : (x == ("__debug__" : Str)) = false := by decide)
    (hcd : (x == ("__classdict__" : Str)) = false := by decide) : PE X (.Name x pos) (tVar i) := pe_var hN hv hd hcd
end

/-! ### tests -/
theorem iteF {A B : Prop} (h : B) : if false = true then A else B := by
  rw [if_neg Bool.false_ne_true]
  exact h
theorem iteT {A B : Prop} (h : A) : if true = true then A else B := by
  rw [if_pos rfl]
  exact h
theorem ite2 {c A B : Prop} [Decidable c] (h1 : c → A) (h2 : ¬ c → B) : if c then A else B := by
  by_cases h : c
  · rw [if_pos h]
    exact h1 h
  · rw [if_neg h]
    exact h2 h
theorem iteNS {c A B : Prop} [Decidable c] (hc : c) (h : B) : if (!decide c) = true then A else B := by
  rw [decide_eq_true hc]
  exact iteF h

/-! ### heaps -/
/-- all that was tracked is as it was -/
def Same (H H' : Hp) : Prop := ∀ b o, H b = some o → H' b = some o
theorem Same.refl (H : Hp) : Same H H := fun _ _ h => h
theorem Same.trans {H H1 H2 : Hp} (a : Same H H1) (b : Same H1 H2) : Same H H2 := fun c o h => b c o (a c o h)
theorem Same.free {H H' : Hp} (e : Same H H') {l : Addr} (h : H' l = Option.none) : H l = Option.none := by
  cases q : H l with
  | none => rfl
  | some o =>
    rw [e l o q] at h
    cases h
theorem Same.seq {K : PySem.W.Frag} {H H' : Hp} {a : Addr} {xs : List V} (e : Same H H') (h : SqL K H a xs) : SqL K H' a xs := by
  rcases h with (h | ⟨o, h⟩) | h
  · exact .inl (.inl (e _ _ h))
  · exact .inl (.inr ⟨o, e _ _ h⟩)
  · exact .inr h

end L2

set_option Elab.async false
set_option linter.all false
set_option maxRecDepth 100000
namespace L2
open PySem PySem.Spec PyProof.Rows
theorem Vals.cons' {x : V} {u : Value} (r : RelV x u) : Vals [x] [u] := .cons r .nil
end L2
namespace L2
open PySem PySem.Spec PyProof.Rows

/-! ## A comprehension of lists: one clause over a plain name, at most one test -/

/-- an untracked list of ours is tracked from here on -/
theorem Inv.track {X : Cx} {pins : List (Addr × Obj)} {σ : St} {H : Hp} {s : Shared} {D : Addr} {o : HO} (I : Inv X pins σ H s) (hn : H D = none) (h0 : X.s₀.heap.objs.size ≤ D) (hL : D ≠ X.env.locals)
    (hc : ∀ x c, X.env.cells.lookup x = some c → c ≠ D) (hp : ∀ p ∈ X.pn ++ pins, p.1 ≠ D) (new : ObjOk X.prog X.w (upd H D o) s.heap D o) : Inv X pins σ (upd H D o) s := by
  have ne : ∀ b u, H b = some u → b ≠ D := fun b u e => ne_of_none e hn
  refine ⟨I.ok, I.os, I.bare, ⟨I.base.keep, I.base.slot, fun b u e n hx => ?_, I.base.there, fun b xs e => ?_, fun b u xs e => ?_, fun b ps e => ?_⟩, I.loc, I.cell, ?_, fun x c e => ?_, fun p q => ?_, fun b u e => ?_, I.len⟩
  · rw [upd_ne (Nat.ne_of_lt (Nat.lt_of_lt_of_le (Heap.lt_size e) h0))]
    exact I.base.free b u e n hx
  · have e' := I.base.tups b xs e
    rw [upd_ne (ne b _ e')]; exact e'
  · have e' := I.base.frzs b u xs e
    rw [upd_ne (ne b _ e')]; exact e'
  · obtain ⟨more, e'⟩ := I.base.tbls b ps e
    exact ⟨more, by rw [upd_ne (ne b _ e')]; exact e'⟩
  · rw [upd_ne (Ne.symm hL)]; exact I.free
  · rw [upd_ne (hc x c e)]; exact I.freeC x c e
  · obtain ⟨a1, a2, a3, a4, a5⟩ := I.pin p q
    exact ⟨a1, by rw [upd_ne (hp p q)]; exact a2, a3, a4, a5⟩
  · by_cases hb : b = D
    · subst hb; rw [upd_same] at e; cases e; exact new
    · rw [upd_ne hb] at e
      exact (I.hok b u e).stay (fun c v _ q => q) (fun c q => by rw [upd_ne (ne c _ q)]; exact q) fun c xs q => by rw [upd_ne (ne c _ q)]; exact q

/-- the cells that a block closes over -/
def closL : List (Str × NameKind) → List (Str × Addr) → List (Str × Addr) → List (Str × Addr)
  | [], _, acc => acc
  | (n, k) :: r, cells, acc => if k == .free then closL r cells ((n, (cells.lookup n).getD 0) :: acc) else closL r cells acc

theorem closure_go {env : Env} : ∀ (names : List (Str × NameKind)) (acc : List (Str × Addr)), (∀ y ∈ names, y.2 = .free → ∃ c, env.cells.lookup y.1 = some c) →
    (forIn names acc fun x cs => (if x.2 == NameKind.free then do let a ← cellOf env x.1; pure (ForInStep.yield ((x.1, a) :: cs)) else pure (ForInStep.yield cs) : Sem (ForInStep (List (Str × Addr))))) = pure (closL names env.cells acc) := by
  intro names
  induction names with
  | nil => intro acc _; rfl
  | cons p r ih =>
    intro acc h
    obtain ⟨n, k⟩ := p
    rw [List.forIn_cons]
    have hr : ∀ y ∈ r, y.2 = .free → ∃ c, env.cells.lookup y.1 = some c := fun y hy => h y (List.mem_cons_of_mem _ hy)
    by_cases hk : k = .free
    · subst hk
      obtain ⟨c, hc⟩ := h (n, .free) List.mem_cons_self rfl
      have hc' : env.cells.lookup n = some c := hc
      have e1 : cellOf env n = pure c := by unfold cellOf; rw [hc']
      have e2 : closL ((n, NameKind.free) :: r) env.cells acc = closL r env.cells ((n, c) :: acc) := by
        show (if (NameKind.free == NameKind.free) = true then _ else _) = _
        rw [if_pos (by decide), hc']; rfl
      rw [e2, ← ih ((n, c) :: acc) hr]
      simp only [beq_self_eq_true, if_true, e1, pure_bind]
    · have hb : (k == NameKind.free) = false := by simpa using hk
      have e2 : closL ((n, k) :: r) env.cells acc = closL r env.cells acc := by
        show (if (k == NameKind.free) = true then _ else _) = _
        rw [hb]; rfl
      rw [e2, ← ih acc hr]
      simp only [hb, Bool.false_eq_true, if_false, pure_bind]

theorem closure_is {env : Env} {scope : Scope} (h : ∀ y ∈ scope.names, y.2 = .free → ∃ c, env.cells.lookup y.1 = some c) : closureFor scope env = pure (closL scope.names env.cells []) := by
  rw [← closure_go scope.names [] h]
  unfold closureFor
  simp only [bind_pure]

theorem closL_lookup : ∀ (names : List (Str × NameKind)) {cells acc : List (Str × Addr)} {x : Str} {c : Addr}, (∀ y ∈ names, y.2 = .free → ∃ c, cells.lookup y.1 = some c) → (∀ y d, acc.lookup y = some d → cells.lookup y = some d) →
    (closL names cells acc).lookup x = some c → cells.lookup x = some c := by
  intro names
  induction names with
  | nil => intro cells acc x c _ h e; exact h x c e
  | cons p r ih =>
    intro cells acc x c h ha e
    obtain ⟨n, k⟩ := p
    have hr : ∀ y ∈ r, y.2 = .free → ∃ c, cells.lookup y.1 = some c := fun y hy => h y (List.mem_cons_of_mem _ hy)
    by_cases hk : k = .free
    · subst hk
      obtain ⟨d, hd⟩ := h (n, .free) List.mem_cons_self rfl
      have hd' : cells.lookup n = some d := hd
      have e2 : closL ((n, NameKind.free) :: r) cells acc = closL r cells ((n, d) :: acc) := by
        show (if (NameKind.free == NameKind.free) = true then _ else _) = _
        rw [if_pos (by decide), hd']; rfl
      rw [e2] at e
      refine ih hr (fun y q z => ?_) e
      rw [List.lookup_cons] at z
      split at z
      · rename_i hy
        have hy' : y = n := by simpa using hy
        subst hy'
        cases z; exact hd'
      · exact ha y q z
    · have hb : (k == NameKind.free) = false := by simpa using hk
      have e2 : closL ((n, k) :: r) cells acc = closL r cells acc := by
        show (if (k == NameKind.free) = true then _ else _) = _
        rw [hb]; rfl
      rw [e2] at e
      exact ih hr ha e

theorem closL_has : ∀ (names : List (Str × NameKind)) {cells acc : List (Str × Addr)} {x : Str}, ((x, NameKind.free) ∈ names ∨ ∃ d, acc.lookup x = some d) → ∃ c, (closL names cells acc).lookup x = some c := by
  intro names
  induction names with
  | nil =>
    intro cells acc x h
    rcases h with h | h
    · exact absurd h (by simp)
    · exact h
  | cons p r ih =>
    intro cells acc x h
    obtain ⟨n, k⟩ := p
    by_cases hk : k = .free
    · subst hk
      have e2 : closL ((n, NameKind.free) :: r) cells acc = closL r cells ((n, (cells.lookup n).getD 0) :: acc) := by
        show (if (NameKind.free == NameKind.free) = true then _ else _) = _
        rw [if_pos (by decide)]
      rw [e2]
      refine ih ?_
      by_cases hx : x = n
      · exact .inr ⟨(cells.lookup n).getD 0, by subst hx; simp [List.lookup_cons]⟩
      · rcases h with h | ⟨d, h⟩
        · rcases List.mem_cons.mp h with q | q
          · exact absurd (congrArg Prod.fst q) hx
          · exact .inl q
        · refine .inr ⟨d, ?_⟩
          rw [List.lookup_cons]
          have : (x == n) = false := by simpa using hx
          rw [this]; exact h
    · have hb : (k == NameKind.free) = false := by simpa using hk
      have e2 : closL ((n, k) :: r) cells acc = closL r cells acc := by
        show (if (k == NameKind.free) = true then _ else _) = _
        rw [hb]; rfl
      rw [e2]
      refine ih ?_
      rcases h with h | h
      · rcases List.mem_cons.mp h with q | q
        · exact absurd (congrArg Prod.snd q).symm hk
        · exact .inl q
      · exact .inr h

theorem relabel_lookup {env : Env} : ∀ (names : List (Str × NameKind)) (x : Str),
    (names.map fun (n, k) => if (k == NameKind.free && env.scope.kind == .function && env.kindOf n == some .cell) then (n, NameKind.cell) else (n, k)).lookup x =
      (names.lookup x).map fun k => if (k == NameKind.free && env.scope.kind == .function && env.kindOf x == some .cell) then NameKind.cell else k
  | [], _ => rfl
  | (n, k) :: r, x => by
    have ih := @relabel_lookup env r x
    show List.lookup x ((if (k == NameKind.free && env.scope.kind == .function && env.kindOf n == some .cell) = true then (n, NameKind.cell) else (n, k)) :: _) = _
    by_cases hx : x = n
    · subst hx
      by_cases hc : (k == NameKind.free && env.scope.kind == .function && env.kindOf x == some .cell) = true
      · rw [if_pos hc]; simp only [List.lookup_cons, beq_self_eq_true, Option.map_some]; rw [if_pos hc]
      · rw [if_neg hc]; simp only [List.lookup_cons, beq_self_eq_true, Option.map_some]; rw [if_neg hc]
    · have hb : (x == n) = false := by simpa using hx
      by_cases hc : (k == NameKind.free && env.scope.kind == .function && env.kindOf n == some .cell) = true
      · rw [if_pos hc]; simp only [List.lookup_cons, hb]; exact ih
      · rw [if_neg hc]; simp only [List.lookup_cons, hb]; exact ih

/-- what is asked of a block's names, decided by the text: outer the names' kinds around it, N the slots' names -/
def compOk (scope outer : Scope) (N : List Str) (x : Str) : Bool :=
  (scope.kind == .function) && scope.names.all (fun y => !(y.2 == .cell)) && scope.names.all (fun y => !(y.2 == .local) || (y.1 == x || y.1 == ".0")) &&
    scope.names.all (fun y => !(y.2 == .local) || scope.names.lookup y.1 == some .local) && (scope.names.lookup x == some .local) &&
    scope.names.all (fun y => !(y.2 == .free) || (outer.names.lookup y.1 == some .cell || outer.names.lookup y.1 == some .free)) &&
    !(N.contains ".0") && (scope.names.lookup (x ++ "'") == none) && decide (x :: N.map fun y => if y = x then x ++ "'" else y).Nodup
def compN (N : List Str) (x : Str) : List Str := x :: N.map fun y => if y = x then x ++ "'" else y
structure CompOk (scope outer : Scope) (N : List Str) (x : Str) : Prop where
  kind : scope.kind = .function
  nocell : ∀ y ∈ scope.names, y.2 ≠ .cell
  loc : ∀ y ∈ scope.names, y.2 = .local → y.1 = x ∨ y.1 = ".0"
  names : ∀ y ∈ scope.names, y.2 = .local → scope.names.lookup y.1 = some .local
  own : scope.names.lookup x = some .local
  free : ∀ y ∈ scope.names, y.2 = .free → outer.names.lookup y.1 = some .cell ∨ outer.names.lookup y.1 = some .free
  dot : (".0" : Str) ∉ N
  prime : scope.names.lookup (x ++ "'") = none
  nd : (compN N x).Nodup
theorem compOk_iff {scope outer : Scope} {N : List Str} {x : Str} (h : compOk scope outer N x = true) : CompOk scope outer N x := by
  unfold compOk at h
  simp only [Bool.and_eq_true, List.all_eq_true, Bool.or_eq_true, Bool.not_eq_true', beq_iff_eq, beq_eq_false_iff_ne, decide_eq_true_eq] at h
  obtain ⟨⟨⟨⟨⟨⟨⟨⟨h1, h2⟩, h3⟩, h4⟩, h5⟩, h6⟩, h7⟩, h8⟩, h9⟩ := h
  refine ⟨h1, h2, fun y hy e => ?_, fun y hy e => ?_, h5, fun y hy e => ?_, ?_, h8, h9⟩
  · rcases h3 y hy with z | z
    · exact absurd e z
    · exact z
  · rcases h4 y hy with z | z
    · exact absurd e z
    · exact z
  · rcases h6 y hy with z | z
    · exact absurd e z
    · exact z
  · intro z
    have : N.contains ".0" = true := List.contains_iff_mem.mpr z
    rw [this] at h7; cases h7
end L2
namespace L2
open PySem PySem.Spec PyProof.Rows

/-- the turns of a block, the step ahead of the store left to the iterator -/
theorem compLoop_any {prog : Program} {w : World} {A : Around} {R : Result → Shared → Prop} {s : Shared} {elt target iter : Expr} {ifs : List Expr} {scope : Scope} {pos : Pos} {it acc : Value} {env : Env} (I : Nat → Shared → Prop)
    (turn : ∀ n s, I n s → wpAny (model prog w) A (pyNext it) (fun r s₁ => match r with
      | none => R (.ok .next) s₁
      | some v => wpAny (model prog w) A (letOwnedTupleGo target it v) (fun _ s₁ => wpAny (model prog w) A (assign target env v) (fun _ s₂ =>
          wpAny (model prog w) A (forIn ifs true fun c r => if r = true then do let ok ← isTrue c env (eval c env); pure (ForInStep.yield ok) else pure (ForInStep.yield r)) (fun ok s₃ =>
            if ok = true then wpAny (model prog w) A (eval elt env) (fun x s₄ =>
              wpAny (model prog w) A (call (.builtin "list.append") [acc, x]) (fun _ s₅ => ∃ m, m < n ∧ I m s₅) (fun _ _ => False) s₄) (fun _ _ => False) s₃
            else ∃ m, m < n ∧ I m s₃) (fun _ _ => False) s₂) (fun _ _ => False) s₁) (fun _ _ => False) s₁) (fun _ _ => False) s)
    (n : Nat) (h : I n s) :
    codeAny (model prog w) A (.compLoop (.ListComp elt [⟨target, iter, ifs, 0⟩] scope pos) 0 it acc env) R s := by
  refine codeAny_loop rfl I (fun n s hI => ?_) n h
  show wpAny _ A ((compTurn (.ListComp elt [⟨target, iter, ifs, 0⟩] scope pos) 0 it acc env).onRaise (fun x => do noteFrame x env; theTreesLotGoes x)) _ _ s
  refine wpAny_noted ?_
  rw [compTurn_list]
  refine wpAny_bind (wpAny_standAt (wpAny_bind (wpAny_mono (turn n s hI) (fun r s₁ h₁ => ?_) fun _ _ h' => h'.elim)))
  cases r with
  | none => exact wpAny_pure h₁
  | some v =>
    refine wpAny_bind (wpAny_mono h₁ (fun _ s₁ h₁ => ?_) fun _ _ h' => h'.elim)
    refine wpAny_bind (wpAny_mono h₁ (fun _ s₂ h₂ => wpAny_bind (wpAny_mono h₂ (fun ok s₃ h₃ => ?_) fun _ _ h' => h'.elim)) fun _ _ h' => h'.elim)
    cases ok with
    | false => exact wpAny_pure ⟨rfl, h₃⟩
    | true =>
      exact wpAny_bind (wpAny_bind (wpAny_mono h₃ (fun x s₄ h₄ => wpAny_bind (wpAny_mono h₄ (fun _ s₅ h₅ => wpAny_pure (wpAny_pure ⟨rfl, h₅⟩)) fun _ _ h' => h'.elim)) fun _ _ h' => h'.elim))

section
variable {X : Cx}

/-- a clause's tests -/
def PIfs (X : Cx) (ifs : List Expr) (t : TT) : Prop :=
  ∀ (pins : List (Addr × Obj)) (s : Shared) (σ : St) (H : Hp) (Q : Bool → Hp → Prop), Inv X pins σ H s → t σ H Q →
    wpAny (model X.prog X.w) X.A (forIn ifs true fun c r => if r = true then do let ok ← isTrue c X.env (eval c X.env); pure (ForInStep.yield ok) else pure (ForInStep.yield r)) (TP X pins σ Q) X.xe s
def tYes : TT := fun _ H Q => Q true H
theorem pif_nil : PIfs X [] tYes := fun _ _ _ H _ I h => wpAny_tests_nil ⟨H, I, h⟩
theorem pif_one {c : Expr} {t : TT} (h : PT X c t) : PIfs X [c] t := fun pins s σ H Q I hw => wpAny_tests_one (h pins s σ H Q I hw)

/-- the context of a block: its own name first, then the names around it -/
def cxComp (X : Cx) (x : Str) (scope : Scope) (s : Shared) (H : Hp) (ex : List Addr) : Cx :=
  { X with
    N := compN X.N x
    s₀ := s
    H₀ := H
    env := compEnvC scope (closL scope.names X.env.cells []) s.heap.objs.size X.env
    outer := X.stack
    stack := X.stack
    ex := ex
    fn := fun _ => false
    pn := []
    xe := fun _ _ => False }

/-- what a block is to be: W by the turn, a measure, the values so far -/
def CompW (J : It) (tc : TT) (te : TE) (σ : St) (fin : List V → Hp → Prop) (W : Nat → Nat → List V → Hp → Prop) : Prop :=
  ∀ i m ys H, W i m ys H → ys.length ≤ sizeLine ∧ ((J.stop i H ∧ fin ys H) ∨
    (J.go i H ∧ ∀ v H', J.yld i H v H' → tc (some v :: σ) H' fun b H2 => if b = true then te (some v :: σ) H2 fun y H3 => ∃ m', m' < m ∧ W (i + 1) m' (ys ++ [y]) H3 else ∃ m', m' < m ∧ W (i + 1) m' ys H2))

theorem lookup_mem {α : Type} : ∀ {l : List (Str × α)} {x : Str} {k : α}, l.lookup x = some k → (x, k) ∈ l
  | [], _, _, h => by simp at h
  | (n, k') :: r, x, k, h => by
    rw [List.lookup_cons] at h
    split at h
    · rename_i hx
      have : x = n := by simpa using hx
      subst this
      cases h
      exact List.mem_cons_self
    · exact List.mem_cons_of_mem _ (lookup_mem h)

theorem compN_get {N : List Str} {x y : Str} {i : Nat} (h : (compN N x)[i + 1]? = some y) : (N[i]? = some y ∧ y ≠ x) ∨ y = x ++ "'" := by
  unfold compN at h
  rw [List.getElem?_cons_succ, List.getElem?_map] at h
  cases e : N[i]? with
  | none => rw [e] at h; cases h
  | some z =>
    rw [e] at h
    have h' : (if z = x then x ++ "'" else z) = y := by simpa using h
    by_cases hz : z = x
    · rw [if_pos hz] at h'; exact .inr h'.symm
    · rw [if_neg hz] at h'
      subst h'
      exact .inl ⟨rfl, hz⟩

/-- the block begins -/
theorem comp_start {x : Str} {scope : Scope} {pins : List (Addr × Obj)} {σ : St} {H : Hp} {s : Shared} {h₁ : Heap} {ex : List Addr} (ok : CompOk scope X.env.scope X.N x) (hc : X.calm = true) (I : Inv X pins σ H s)
    (hns : h₁.Ns s.heap.objs.size fun _ => none) (hk : ∀ b o, s.heap.get? b = some o → h₁.get? b = some o)
    (hex : ∀ b ∈ ex, b < s.heap.objs.size ∧ b ≠ X.env.locals ∧ b ∉ X.fs ∧ H b = none ∧ (b ∈ X.ex ∨ X.s₀.heap.objs.size ≤ b) ∧ (∀ y c, X.env.cells.lookup y = some c → c ≠ b)) {tk : Nat} :
    Inv (cxComp X x scope s H ex) [] (none :: σ) H { s with heap := h₁, toks := tk } := by
  have hfree : ∀ y ∈ scope.names, y.2 = .free → ∃ c, X.env.cells.lookup y.1 = some c := fun y hy e => I.ok.has y.1 (ok.free y hy e)
  have cl : ∀ y c, (closL scope.names X.env.cells []).lookup y = some c → X.env.cells.lookup y = some c := fun y c e => closL_lookup scope.names hfree (fun _ _ z => by simp at z) e
  have clt : ∀ y c, X.env.cells.lookup y = some c → c < s.heap.objs.size := fun y c e => by
    obtain ⟨v, q⟩ := I.cell y c e
    exact q.lt
  have kindL : ∀ y, (compEnvC scope (closL scope.names X.env.cells []) s.heap.objs.size X.env).kindOf y = (scope.names.lookup y).map fun k => if (k == NameKind.free && X.env.scope.kind == .function && X.env.kindOf y == some .cell) then NameKind.cell else k := fun y => relabel_lookup scope.names y
  have freeOf : ∀ y, (∃ k, (compEnvC scope (closL scope.names X.env.cells []) s.heap.objs.size X.env).kindOf y = some k ∧ (k = .cell ∨ k = .free)) → (y, NameKind.free) ∈ scope.names := fun y ⟨k, e, hk⟩ => by
    rw [kindL] at e
    cases q : scope.names.lookup y with
    | none => rw [q] at e; cases e
    | some k' =>
      have mem := lookup_mem q
      by_cases hf : k' = .free
      · subst hf; exact mem
      · rw [q] at e
        have hb : (k' == NameKind.free) = false := by simpa using hf
        simp only [Option.map_some, hb, Bool.false_and, Bool.false_eq_true, if_false, Option.some.injEq] at e
        subst e
        rcases hk with z | z
        · exact absurd z (ok.nocell _ mem)
        · exact absurd z hf
  have stackFr : ∀ b ∈ frs X.stack, b = X.env.locals ∨ b ∈ X.fs := fun b hb => List.mem_cons.mp (I.stkSub b hb)
  refine ⟨⟨I.ok.mod, ?_, I.ok.glob, I.ok.blt, Nat.le_refl _, fun y z c e1 e2 => ?_, fun y hy => ?_, fun y c z _ => ?_, fun _ => I.ok.hd hc, I.ok.frames, .inl rfl, fun b hb => ⟨?_, fun y c e => ?_⟩, fun b o e => ?_, ?_, fun b o e hb => ?_, fun b hb hf => ?_, ?_, fun b hb => ?_⟩,
    rfl, I.bare, Un.kept hk, ⟨_, hns, fun i y v e1 e2 e3 => ?_⟩, fun y c e => ?_, I.hok.fresh (Nat.le_refl _), fun y c e => I.freeC y c (cl y c e), fun p hp => ?_, I.hok.kept hk, ?_⟩
  · exact ok.kind
  · exact I.ok.inj y z c (cl y c e1) (cl z c e2)
  · have hm : (y, NameKind.free) ∈ scope.names := by
      rcases hy with z | z
      · exact freeOf y ⟨_, z, .inl rfl⟩
      · exact freeOf y ⟨_, z, .inr rfl⟩
    exact closL_has scope.names (.inl hm)
  · exact absurd (show false = true from z) (by decide)
  · exact Nat.ne_of_lt (hex b hb).1
  · exact (hex b hb).2.2.2.2.2 y c (cl y c e)
  · obtain ⟨e1, e2⟩ := I.bs b o e
    exact ⟨e1, e2⟩
  · exact Nat.le_trans I.ok.bsz I.sz
  · rcases (hex b hb).2.2.2.2.1 with z | z
    · exact I.ok.noex b o e z
    · exact absurd (Nat.lt_of_lt_of_le (Heap.lt_size (I.ok.bs b o e).1) z) (Nat.lt_irrefl _)
  · rcases stackFr b hf with z | z
    · exact (hex b hb).2.1 z
    · exact (hex b hb).2.2.1 z
  · exact I.stack
  · exact I.stkFree b hb
  · cases i with
    | zero =>
      have : (none :: σ)[0]? = some (some v) := e2
      simp at this
    | succ i =>
      have e2' : σ[i]? = some (some v) := by simpa using e2
      have vis : Vis (relabel scope X.env) y := e3
      rcases compN_get e1 with ⟨eN, hyx⟩ | hp
      · -- a name of the function around
        have kf : (y, NameKind.free) ∈ scope.names := by
          have k3 : ∃ k, (compEnvC scope (closL scope.names X.env.cells []) s.heap.objs.size X.env).kindOf y = some k ∧ (k = .local ∨ k = .cell ∨ k = .free) := by
            rcases vis with z | z | z
            · exact ⟨_, z, .inl rfl⟩
            · exact ⟨_, z, .inr (.inl rfl)⟩
            · exact ⟨_, z, .inr (.inr rfl)⟩
          obtain ⟨k, e, hk3⟩ := k3
          rcases hk3 with hl | hk3
          · subst hl
            have e' := e
            rw [kindL] at e'
            cases q : scope.names.lookup y with
            | none => rw [q] at e'; cases e'
            | some k' =>
              have mem := lookup_mem q
              rw [q] at e'
              have hk' : k' = .local := by
                by_cases hcnd : (k' == NameKind.free && X.env.scope.kind == .function && X.env.kindOf y == some .cell) = true
                · simp only [Option.map_some, hcnd, if_true, Option.some.injEq] at e'
                  cases e'
                · simp only [Option.map_some, hcnd, Bool.false_eq_true, if_false, Option.some.injEq] at e'
                  exact e'
              subst hk'
              rcases ok.loc _ mem rfl with z | z
              · exact absurd z hyx
              · have : y = ".0" := z
                subst this
                exact absurd (List.mem_of_getElem? eN) ok.dot
          · exact freeOf y ⟨k, e, hk3⟩
        have hout := ok.free _ kf rfl
        have visO : Vis X.env.scope y := by
          rcases hout with z | z
          · exact .inr (.inl z)
          · exact .inr (.inr z)
        obtain ⟨m, hn, hl⟩ := I.loc
        obtain ⟨u, ru, lk⟩ := hl i y v eN e2' visO
        refine ⟨u, ru, ?_⟩
        rcases lk with ⟨lk, _⟩ | ⟨_, c, ec, hcell⟩
        · have lk' : X.env.scope.names.lookup y = some .local := lk
          rcases hout with z | z <;> (have z' : X.env.scope.names.lookup y = _ := z; rw [lk'] at z'; cases z')
        · obtain ⟨c', ec'⟩ := closL_has (cells := X.env.cells) (acc := []) scope.names (.inl kf)
          have : c' = c := by
            have := cl y c' ec'
            rw [ec] at this; cases this; rfl
          subst this
          have kk : (compEnvC scope (closL scope.names X.env.cells []) s.heap.objs.size X.env).kindOf y = some .cell ∨ (compEnvC scope (closL scope.names X.env.cells []) s.heap.objs.size X.env).kindOf y = some .free := by
            rcases vis with z | z | z
            · -- a local of the block named so: only its own
              have z' : (compEnvC scope (closL scope.names X.env.cells []) s.heap.objs.size X.env).kindOf y = some .local := z
              rw [kindL] at z'
              cases q : scope.names.lookup y with
              | none => rw [q] at z'; cases z'
              | some k' =>
                have mem := lookup_mem q
                rw [q] at z'
                have hk' : k' = .local := by
                  by_cases hcnd : (k' == NameKind.free && X.env.scope.kind == .function && X.env.kindOf y == some .cell) = true
                  · simp only [Option.map_some, hcnd, if_true, Option.some.injEq] at z'
                    cases z'
                  · simp only [Option.map_some, hcnd, Bool.false_eq_true, if_false, Option.some.injEq] at z'
                    exact z'
                subst hk'
                rcases ok.loc _ mem rfl with zz | zz
                · exact absurd zz hyx
                · have : y = ".0" := zz
                  subst this
                  exact absurd (List.mem_of_getElem? eN) ok.dot
            · exact .inl z
            · exact .inr z
          refine .inr ⟨kk, c', ec', ?_⟩
          obtain ⟨oc, hoc, hd⟩ := hcell
          exact ⟨oc, hk _ _ hoc, hd⟩
      · subst hp
        exfalso
        have kn : (compEnvC scope (closL scope.names X.env.cells []) s.heap.objs.size X.env).kindOf (x ++ "'") = none := by rw [kindL, ok.prime]; rfl
        rcases vis with z | z | z
        · have z' : (compEnvC scope (closL scope.names X.env.cells []) s.heap.objs.size X.env).kindOf (x ++ "'") = some .local := z
          rw [kn] at z'; cases z'
        · have z' : (compEnvC scope (closL scope.names X.env.cells []) s.heap.objs.size X.env).kindOf (x ++ "'") = some .cell := z
          rw [kn] at z'; cases z'
        · have z' : (compEnvC scope (closL scope.names X.env.cells []) s.heap.objs.size X.env).kindOf (x ++ "'") = some .free := z
          rw [kn] at z'; cases z'
  · obtain ⟨v, oc, hoc, hd⟩ := I.cell y c (cl y c e)
    exact ⟨v, oc, hk _ _ hoc, hd⟩
  · exact absurd (show p ∈ ([] : List (Addr × Obj)) from hp) (by simp)
  · show (none :: σ).length = (compN X.N x).length
    unfold compN
    rw [List.length_cons, List.length_cons, List.length_map, I.len]
end
end L2
namespace L2
open PySem PySem.Spec PyProof.Rows
section
variable {X : Cx}

theorem Heap.SameBut.keeps {a : Addr} {h h' : Heap} (k : Heap.SameBut a h h') {b : Addr} {o : Obj} (hb : b ≠ a) (e : h.get? b = some o) : h'.get? b = some o := (k.2 b hb).trans e

theorem comp_loop {x : Str} {px pos : Pos} {scope : Scope} {elt iter : Expr} {ifs : List Expr} {tc : TT} {te : TE} {pins : List (Addr × Obj)} {σ : St} {H₂ : Hp} {s₃ : Shared} {h₁ : Heap} {tk : Nat} {it D : Addr} {fp : List Addr} {tn : Nat → Heap → Prop} {J : It} {fin : List V → Hp → Prop}
    {W : Nat → Nat → List V → Hp → Prop} {RR : Value → Addr → Result → Shared → Prop}
    (ok : CompOk scope X.env.scope X.N x) (hc : X.calm = true) (hif : ∀ s H ex, PIfs (cxComp X x scope s H ex) ifs tc) (he : ∀ s H ex, PE (cxComp X x scope s H ex) elt te)
    (I3 : Inv X pins σ H₂ s₃) (T : Turn X.prog X.w X.K (.Name x px) J fp it tn) (st : tn 0 s₃.heap) (f2 : ∀ b ∈ fp, FpOk X pins H₂ b) (w0 : ∃ m, W 0 m [] H₂) (hW : CompW J tc te σ fin W)
    (hDfresh : H₂ D = none) (fD : FpOk X pins H₂ D) (h0D : X.s₀.heap.objs.size ≤ D) (hobjD : s₃.heap.get? D = some { cls := .type "list", dict := none, data := .seq ([] : List Value).toArray }) (Dfp : D ∉ fp)
    (hns₁ : h₁.Ns s₃.heap.objs.size fun _ => none) (keep31 : ∀ b o, s₃.heap.get? b = some o → h₁.get? b = some o)
    (hRR : ∀ D C ys H' s', H' D = none → fin ys H' → Inv X pins σ (upd H' D (.lst ys)) s' → FpOk X pins (upd H' D (.lst ys)) C → (∃ m, s'.heap.Ns C m) → RR (.ref D) C (.ok .next) s') :
    codeAny (model X.prog X.w) X.A (.compLoop (.ListComp elt [⟨.Name x px, iter, ifs, 0⟩] scope pos) 0 (.ref it) (.ref D) (compEnvC scope (closL scope.names X.env.cells []) s₃.heap.objs.size X.env)) (RR (.ref D) s₃.heap.objs.size) { s₃ with heap := h₁, toks := tk } := by
  have hfpex : ∀ b ∈ fp, ∃ o, s₃.heap.get? b = some o ∧ ∀ v, o.data ≠ .cell v := T.obj 0 s₃.heap st
  have hex : ∀ b ∈ D :: fp, b < s₃.heap.objs.size ∧ b ≠ X.env.locals ∧ b ∉ X.fs ∧ H₂ b = none ∧ (b ∈ X.ex ∨ X.s₀.heap.objs.size ≤ b) ∧ (∀ y c, X.env.cells.lookup y = some c → c ≠ b) := fun b hb => by
    rcases List.mem_cons.mp hb with e | hb
    · subst e
      obtain ⟨g0, g1, g2, g3, g4, g5⟩ := fD
      exact ⟨Heap.lt_size hobjD, g1, g2, g0, g3, g4⟩
    · obtain ⟨g0, g1, g2, g3, g4, g5⟩ := f2 b hb
      obtain ⟨o, eo, _⟩ := hfpex b hb
      exact ⟨Heap.lt_size eo, g1, g2, g0, g3, g4⟩
  have I4 := comp_start (ex := D :: fp) (tk := tk) ok hc I3 hns₁ keep31 hex
  -- the block's context
  generalize hY : cxComp X x scope s₃ H₂ (D :: fp) = Y at I4
  have Yprog : Y.prog = X.prog := by rw [← hY]; rfl
  have Yw : Y.w = X.w := by rw [← hY]; rfl
  have YK : Y.K = X.K := by rw [← hY]; rfl
  have YA : Y.A = X.A := by rw [← hY]; rfl
  have Yc : Y.calm = true := by rw [← hY]; exact hc
  have YN : Y.N.Nodup := by rw [← hY]; exact ok.nd
  have Y0 : Y.N[0]? = some x := by rw [← hY]; rfl
  have Yenv : Y.env = compEnvC scope (closL scope.names X.env.cells []) s₃.heap.objs.size X.env := by rw [← hY]; rfl
  have Yx : Y.env.scope.names.lookup x = some .local := by rw [Yenv]; exact lookup_relabel_local ok.own
  have Yfs : Y.fs = frs X.stack := by rw [← hY]; rfl
  have Yex : Y.ex = D :: fp := by rw [← hY]; rfl
  have Ys0 : Y.s₀ = s₃ := by rw [← hY]; rfl
  have YH0 : Y.H₀ = H₂ := by rw [← hY]; rfl
  have Ypn : Y.pn = [] := by rw [← hY]; rfl
  have Yxe : Y.xe = fun _ _ => False := by rw [← hY]; rfl
  have hif' : PIfs Y ifs tc := by rw [← hY]; exact hif _ _ _
  have he' : PE Y elt te := by rw [← hY]; exact he _ _ _
  have Dne : D ≠ Y.env.locals := by rw [Yenv]; exact Nat.ne_of_lt (Heap.lt_size hobjD)
  have Dfs : D ∉ Y.fs := by
    rw [Yfs]; intro hb
    rcases List.mem_cons.mp (I3.stkSub D hb) with z | z
    · exact fD.2.1 z
    · exact fD.2.2.1 z
  have Dcell : ∀ y c, Y.env.cells.lookup y = some c → c ≠ D := fun y c e => by
    have hfree : ∀ y ∈ scope.names, y.2 = .free → ∃ c, X.env.cells.lookup y.1 = some c := fun y hy e => I3.ok.has y.1 (ok.free y hy e)
    rw [Yenv] at e
    exact fD.2.2.2.2.1 y c (closL_lookup scope.names hfree (fun _ _ z => by simp at z) e)
  have fpY : ∀ {H' : Hp} {pl : List (Addr × Obj)}, (∀ b ∈ fp, H' b = none) → (∀ p ∈ pl, p.1 ∉ fp) → ∀ b ∈ fp, FpOk Y pl H' b := fun {H' pl} hn hp b hb => by
    obtain ⟨g0, g1, g2, g3, g4, g5⟩ := f2 b hb
    have hlt := (hex b (List.mem_cons_of_mem _ hb)).1
    refine ⟨hn b hb, ?_, ?_, .inl (by rw [Yex]; exact List.mem_cons_of_mem _ hb), fun y c e => ?_, fun p q z => ?_⟩
    · rw [Yenv]; exact Nat.ne_of_lt hlt
    · rw [Yfs]; intro z
      rcases List.mem_cons.mp (I3.stkSub b z) with z | z
      · exact g1 z
      · exact g2 z
    · have hfree : ∀ y ∈ scope.names, y.2 = .free → ∃ c, X.env.cells.lookup y.1 = some c := fun y hy e => I3.ok.has y.1 (ok.free y hy e)
      rw [Yenv] at e
      exact g4 y c (closL_lookup scope.names hfree (fun _ _ z => by simp at z) e)
    · rw [Ypn, List.nil_append] at q
      exact hp p q (by rw [z]; exact hb)
  have DY : ∀ {H' : Hp}, H' D = none → FpOk Y [] H' D := fun {H'} hn => ⟨hn, Dne, Dfs, .inl (by rw [Yex]; exact List.mem_cons_self), Dcell, fun p q => absurd (show p ∈ ([] : List (Addr × Obj)) by rw [Ypn] at q; exact q) (by simp)⟩
  -- a list that is D's
  have pinD : ∀ {σ' : St} {H' : Hp} {s' : Shared} {its : Array Value} {n : Nat}, Inv Y [] σ' H' s' → H' D = none → s'.heap.get? D = some { cls := .type "list", data := .seq its n } → Inv Y [(D, { cls := .type "list", data := .seq its n })] σ' H' s' := fun {σ' H' s' its n} J' hn e => by
    refine J'.pins_of fun p hp => ?_
    have : p = (D, { cls := .type "list", data := .seq its n }) := by simpa using hp
    subst this
    exact ⟨e, hn, Dne, Dfs, fun v z => by
      have z' : Data.seq its n = Data.cell v := z
      cases z'⟩
  -- the loop
  rw [← Yenv]
  obtain ⟨m0, w0⟩ := w0
  refine compLoop_any (fun m s' => ∃ i ys σ0 H' its n, Inv Y [(D, { cls := .type "list", data := .seq its n })] (σ0 :: σ) H' s' ∧ tn i s'.heap ∧ (∀ b ∈ fp, H' b = none) ∧ Vals ys its.toList ∧ W i m ys H') ?_ m0
    ⟨0, [], none, H₂, _, _, pinD I4 hDfresh (keep31 D _ hobjD), T.keep 0 _ _ st (fun b _ o e => keep31 b o e), fun b hb => (f2 b hb).1, .nil, w0⟩
  rintro m s' ⟨i, ys, σ0, H', its, n, J', st', fr', rv, w'⟩
  obtain ⟨hle, hW'⟩ := hW i m ys H' w'
  have hDn : H' D = none := (J'.pin (D, { cls := .type "list", data := .seq its n }) (by simp)).2.1
  have fpn : ∀ p ∈ [((D, { cls := .type "list", data := .seq its n }) : Addr × Obj)], p.1 ∉ fp := fun p hp => by
    have : p = (D, { cls := .type "list", data := .seq its n }) := by simpa using hp
    subst this; exact Dfp
  rcases hW' with ⟨stop, hf⟩ | ⟨go, step⟩
  · -- the end
    have h9 := T.done Y Yprog Yw YK Yc i _ s' (σ0 :: σ) H' (fun _ _ => False) J' (fpY fr' fpn) st' stop
    rw [YA] at h9
    refine thn h9 fun r s5 ⟨hr, J5⟩ => ?_
    subst hr
    show RR (.ref D) s₃.heap.objs.size (.ok .next) s5
    have eD := (J5.pin (D, { cls := .type "list", data := .seq its n }) (by simp)).1
    have un : Un (frs X.stack) (D :: fp) H₂ H' s₃.heap s5.heap := by
      have := J5.base
      rw [Yfs, Yex, YH0, Ys0] at this
      exact this
    have hok5 : HOk X.prog X.w H' s5.heap := by
      have := J5.hok
      rw [Yprog, Yw] at this
      exact this
    have os5 : s5.os = s₃.os := by have := J5.os; rw [Ys0] at this; exact this
    have I5 : Inv X pins σ H' s5 := I3.call' os5 un hok5 J5.bare fun b hb => by
      rcases List.mem_cons.mp hb with e | hb
      · subst e; exact ⟨fD.2.2.2.1, fD.2.1, fD.2.2.2.2.1, fD.2.2.2.2.2⟩
      · obtain ⟨g0, g1, g2, g3, g4, g5⟩ := f2 b hb
        exact ⟨g3, g1, g4, g5⟩
    have I6 : Inv X pins σ (upd H' D (.lst ys)) s5 := I5.track hDn h0D fD.2.1 fD.2.2.2.2.1 fD.2.2.2.2.2 ⟨hle, its.toList, n, rv, by simpa using eD⟩
    obtain ⟨mC, hnC, _⟩ := J5.loc
    have eL : Y.env.locals = s₃.heap.objs.size := by rw [Yenv]; rfl
    have hCn : H' s₃.heap.objs.size = none := by have := J5.free; rw [eL] at this; exact this
    refine hRR D s₃.heap.objs.size ys H' s5 hDn hf I6 ?_ ⟨mC, by rw [← eL]; exact hnC⟩
    exact I3.fpOk (Nat.le_refl _) (by rw [upd_ne (Nat.ne_of_gt (Heap.lt_size hobjD))]; exact hCn)
  · -- a turn
    have h9 := T.item Y Yprog Yw YK Yc i _ s' (σ0 :: σ) H' (fun _ _ => False) J' (fpY fr' fpn) st' go
    rw [YA] at h9
    refine thn h9 fun r s5 ⟨u, hr, h5⟩ => ?_
    subst hr
    refine thn h5 fun _ s6 ⟨v, H6, J6, rv6, y6, st6, fr6⟩ => ?_
    -- the iterator's objects are pinned for the turn
    have hDn6 : H6 D = none := (J6.pin (D, { cls := .type "list", data := .seq its n }) (by simp)).2.1
    have J6' := J6.pinned (fp := fp) (fpY fr6 fpn) (T.obj _ _ st6)
    have hst := step v H6 y6
    refine wpAny_assign_Name ?_
    have hst1 : ∀ Q', (∀ s7, Inv Y ([(D, { cls := .type "list", data := .seq its n })] ++ pinsAt fp s6.heap) (some v :: σ) H6 s7 → Q' () s7) → wpAny (model X.prog X.w) X.A (storeName Y.env x u) Q' (fun _ _ => False) s6 := fun Q' hQ' =>
      store_ok (i := 0) (σ := σ0 :: σ) J6' YN Y0 (.inl Yx) rv6 (fun s7 J7 => hQ' s7 J7) (.inr Yx)
    refine hst1 _ fun s7 J7 => ?_
    have h10 := hif' _ s7 (some v :: σ) H6 _ J7 hst
    rw [Yprog, Yw, YA, Yxe] at h10
    refine thn h10 fun b s8 ⟨H8, J8, q8⟩ => ?_
    -- what is true behind a turn
    have again : ∀ {s9 : Shared} {H9 : Hp} {ys' : List V} {its' : Array Value} {n' : Nat}, Inv Y [] (some v :: σ) H9 s9 → (∀ b ∈ fp, H9 b = none ∧ ∀ o, s6.heap.get? b = some o → s9.heap.get? b = some o) → H9 D = none →
        s9.heap.get? D = some { cls := .type "list", data := .seq its' n' } → Vals ys' its'.toList → (∃ m', m' < m ∧ W (i + 1) m' ys' H9) →
        ∃ m', m' < m ∧ ∃ i ys σ0 H' its n, Inv Y [(D, { cls := .type "list", data := .seq its n })] (σ0 :: σ) H' s9 ∧ tn i s9.heap ∧ (∀ b ∈ fp, H' b = none) ∧ Vals ys its.toList ∧ W i m' ys H' := fun {s9 H9 ys' its' n'} J9 hfp9 hD9 eD9 rv9 hw9 => by
      obtain ⟨m', hm, w9⟩ := hw9
      exact ⟨m', hm, i + 1, ys', some v, H9, its', n', pinD J9 hD9 eD9, T.keep _ _ _ st6 (fun b hb o e => (hfp9 b hb).2 o e), fun b hb => (hfp9 b hb).1, rv9, w9⟩
    have pinF : ∀ {σ9 : St} {H9 : Hp} {s9 : Shared}, Inv Y ([(D, { cls := .type "list", data := .seq its n })] ++ pinsAt fp s6.heap) σ9 H9 s9 → ∀ b ∈ fp, H9 b = none ∧ ∀ o, s6.heap.get? b = some o → s9.heap.get? b = some o := fun {σ9 H9 s9} J9 b hb => by
      obtain ⟨o, eo, _⟩ := T.obj _ _ st6 b hb
      have p := J9.pin (b, o) (List.mem_append_right _ (List.mem_append_right _ (mem_pinsAt hb eo)))
      exact ⟨p.2.1, fun o' e' => by rw [eo] at e'; cases e'; exact p.1⟩
    have pinL : ∀ {σ9 : St} {H9 : Hp} {s9 : Shared}, Inv Y ([(D, { cls := .type "list", data := .seq its n })] ++ pinsAt fp s6.heap) σ9 H9 s9 → s9.heap.get? D = some { cls := .type "list", data := .seq its n } ∧ H9 D = none := fun {σ9 H9 s9} J9 => by
      have p := J9.pin (D, { cls := .type "list", data := .seq its n }) (List.mem_append_right _ (List.mem_append_left _ (by simp)))
      exact ⟨p.1, p.2.1⟩
    cases b with
    | false =>
      show ∃ m', m' < m ∧ _
      have q8' : ∃ m', m' < m ∧ W (i + 1) m' ys H8 := q8
      obtain ⟨eD8, hD8⟩ := pinL J8
      exact again (J8.pins_of fun p hp => absurd hp (by simp)) (pinF J8) hD8 eD8 rv q8'
    | true =>
      show wpAny _ _ _ _ _ _
      have q8' : te (some v :: σ) H8 fun y H3 => ∃ m', m' < m ∧ W (i + 1) m' (ys ++ [y]) H3 := q8
      have h11 := he' _ s8 (some v :: σ) H8 _ J8 q8'
      rw [Yprog, Yw, YA, Yxe] at h11
      refine thn h11 fun yv s9 ⟨y, H9, J9, ry, q9⟩ => ?_
      obtain ⟨eD9, hD9⟩ := pinL J9
      have hz : its.size ≤ sizeLine := by have := rv.length; simp only [Array.length_toList] at this; omega
      refine wpAny_list_append_plain (hsz := hz) ⟨n, eD9⟩ fun h' hl' hsb' => ?_
      obtain ⟨n', eD'⟩ := hl'
      have J9' : Inv Y [] (some v :: σ) H9 s9 := J9.pins_of fun p hp => absurd hp (by simp)
      obtain ⟨g0, g1, g2, g3, g4, g5⟩ := DY hD9
      have J10 : Inv Y [] (some v :: σ) H9 { s9 with heap := h' } := J9'.turned (t' := s9.toks) (fun b o hb e => Heap.SameBut.keeps hsb' hb e) g0 g1 g3 g4 g5
      refine again J10 (fun b hb => ?_) hD9 eD' (by simpa using rv.append (Vals.cons' ry)) q9
      have p9 := pinF J9 b hb
      exact ⟨p9.1, fun o e => Heap.SameBut.keeps hsb' (fun z => Dfp (z ▸ hb)) (p9.2 o e)⟩

theorem comp_core {x : Str} {px pos : Pos} {scope : Scope} {elt iter : Expr} {ifs : List Expr} {tc : TT} {te : TE} {pins : List (Addr × Obj)} {σ : St} {H₂ : Hp} {s₂ : Shared} {it : Addr} {fp : List Addr} {tn : Nat → Heap → Prop} {J : It} {fin : List V → Hp → Prop}
    {W : Nat → Nat → List V → Hp → Prop} {RR : Value → Addr → Result → Shared → Prop} {E : Value → Shared → Prop}
    (ok : CompOk scope X.env.scope X.N x) (hc : X.calm = true) (hif : ∀ s H ex, PIfs (cxComp X x scope s H ex) ifs tc) (he : ∀ s H ex, PE (cxComp X x scope s H ex) elt te)
    (I2 : Inv X pins σ H₂ s₂) (T : Turn X.prog X.w X.K (.Name x px) J fp it tn) (st : tn 0 s₂.heap) (f2 : ∀ b ∈ fp, FpOk X pins H₂ b) (w0 : ∃ m, W 0 m [] H₂) (hW : CompW J tc te σ fin W)
    (hRR : ∀ D C ys H' s', H' D = none → fin ys H' → Inv X pins σ (upd H' D (.lst ys)) s' → FpOk X pins (upd H' D (.lst ys)) C → (∃ m, s'.heap.Ns C m) → RR (.ref D) C (.ok .next) s') :
    wpAny (model X.prog X.w) X.A (newList []) (fun acc s₃ => wpAny (model X.prog X.w) X.A (newFunctionEnv scope X.env.globals (closL scope.names X.env.cells []) [] X.env.qual none .none (some X.env)) (fun cenv s₄ =>
      codeAny (model X.prog X.w) X.A (.compStart (.ListComp elt [⟨.Name x px, iter, ifs, 0⟩] scope pos) 0 (.ref it) acc { cenv with scope := relabel scope X.env }) (RR acc cenv.locals) s₄) E s₃) E s₂ := by
  refine wpAny_newObj_type (wpAny_newFunctionEnv ok.nocell (by intro y hy; simp at hy) (fun h₁ hns₁ hsb₁ => ?_) ok.kind)
  have I3 : Inv X pins σ H₂ { s₂ with heap := s₂.heap.push { cls := .type "list", dict := none, data := .seq ([] : List Value).toArray } } := I2.kept (t' := s₂.toks) fun b o e => Heap.get?_push_of_some _ e
  have keep31 : ∀ b o, (s₂.heap.push { cls := .type "list", dict := none, data := .seq ([] : List Value).toArray }).get? b = some o → h₁.get? b = some o := fun b o e => Heap.SameBut.keeps hsb₁ (Nat.ne_of_lt (Heap.lt_size e)) (Heap.get?_push_of_some _ e)
  have keep23 : ∀ b o, s₂.heap.get? b = some o → (s₂.heap.push { cls := .type "list", dict := none, data := .seq ([] : List Value).toArray }).get? b = some o := fun b o e => Heap.get?_push_of_some _ e
  have hDfresh : H₂ s₂.heap.objs.size = none := I2.hok.fresh (Nat.le_refl _)
  have loop := comp_loop (RR := RR) (s₃ := { s₂ with heap := s₂.heap.push { cls := .type "list", dict := none, data := .seq ([] : List Value).toArray } }) (h₁ := h₁) (tk := s₂.toks + ([] : List (Str × Value)).length) (iter := iter) (pos := pos)
    ok hc hif he I3 T (T.keep 0 _ _ st fun b _ o e => keep23 b o e) f2 w0 hW hDfresh (I2.fpOk (Nat.le_refl _) hDfresh) I2.sz (Heap.get?_push_size _ rfl) (fun hb => by
      obtain ⟨o, e, _⟩ := T.obj 0 _ st _ hb
      exact Nat.lt_irrefl _ (Heap.lt_size e)) (by simpa using hns₁) keep31 hRR
  exact codeAny_compStart_list loop (T.self _ 0 _ _ _ (T.keep 0 _ _ st fun b _ o e => keep31 b o (keep23 b o e)) loop)

/-- the list of a comprehension -/
def tComp (wi : TI) (tc : TT) (te : TE) : TE := fun σ H Q => wi σ H fun J H1 => ∃ W : Nat → Nat → List V → Hp → Prop, (∃ m, W 0 m [] H1) ∧ CompW J tc te σ (fun ys H2 => ∀ p, H2 p = none → Q (.ref p) (upd H2 p (.lst ys))) W
theorem pe_comp {x : Str} {px pos : Pos} {scope : Scope} {elt iter : Expr} {ifs : List Expr} {wi : TI} {tc : TT} {te : TE} (ok : compOk scope X.env.scope X.N x = true) (hc : X.calm = true) (hi : PI X (.Name x px) iter wi)
    (hif : ∀ s H ex, PIfs (cxComp X x scope s H ex) ifs tc) (he : ∀ s H ex, PE (cxComp X x scope s H ex) elt te) (hs : ∀ v, foldedSetIterable iter X.env v = pure v := by intro _; rfl) :
    PE X (.ListComp elt [⟨.Name x px, iter, ifs, 0⟩] scope pos) (tComp wi tc te) := by
  intro pins s σ H Q I h
  have ok' := compOk_iff ok
  have hfree : ∀ y ∈ scope.names, y.2 = .free → ∃ c, X.env.cells.lookup y.1 = some c := fun y hy e => I.ok.has y.1 (ok'.free y hy e)
  rw [eval_ListComp]
  refine wpAny_comprehension_free (use := none) rfl hs (closure_is hfree) ok'.kind ok'.names (thn (hi pins s σ H _ I h) fun v s1 h1 => thn h1 fun itv s2 h2 => ?_)
  obtain ⟨it, fp, tn, J, H2, e, I2, T, st2, f2, W, w0, hW⟩ := h2
  subst e
  refine comp_core (RR := fun acc C => compPost (model X.prog X.w) X.A X.xe none (EP X pins σ Q) acc C) ok' hc hif he I2 T st2 f2 w0 hW fun D C ys H' s' hD fin I' fC hm => ?_
  obtain ⟨m, hm⟩ := hm
  refine ⟨m, hm, fun h' hsb => ?_⟩
  obtain ⟨g0, g1, g2, g3, g4, g5⟩ := fC
  exact ⟨.ref D, _, I'.turned (t' := s'.toks) (fun b o hb e => Heap.SameBut.keeps hsb hb e) g0 g1 g3 g4 g5, rfl, fin D hD⟩

/-- name = a comprehension, where the store goes first -/
def tCompS (i : Nat) (wi : TI) (tc : TT) (te : TE) : TS := fun D σ H => wi σ H fun J H1 => ∃ W : Nat → Nat → List V → Hp → Prop, (∃ m, W 0 m [] H1) ∧ CompW J tc te σ (fun ys H2 => ∀ p, H2 p = none → D.nx (σ.set i (some (.ref p))) (upd H2 p (.lst ys))) W
theorem ps_comp {i : Nat} {y x : Str} {py px pos spos : Pos} {scope : Scope} {elt iter : Expr} {ifs : List Expr} {wi : TI} {tc : TT} {te : TE} (hN : X.N.Nodup) (hiy : X.N[i]? = some y) (hy : X.env.scope.names.lookup y = some .local)
    (ok : compOk scope X.env.scope X.N x = true) (hc : X.calm = true) (hi : PI X (.Name x px) iter wi)
    (hif : ∀ s H ex, PIfs (cxComp X x scope s H ex) ifs tc) (he : ∀ s H ex, PE (cxComp X x scope s H ex) elt te)
    (hsw : swapsWith (.ListComp elt [⟨.Name x px, iter, ifs, 0⟩] scope pos) (some (.Name y py)) spos.line X.env = pure true := by rfl) (hs : ∀ v, foldedSetIterable iter X.env v = pure v := by intro _; rfl) :
    PS X (.Assign [.Name y py] (.ListComp elt [⟨.Name x px, iter, ifs, 0⟩] scope pos) spos) (tCompS i wi tc te) := by
  intro pins s σ H Dn I h
  have ok' := compOk_iff ok
  have hfree : ∀ y ∈ scope.names, y.2 = .free → ∃ c, X.env.cells.lookup y.1 = some c := fun y hy e => I.ok.has y.1 (ok'.free y hy e)
  rw [exec_Assign_Name_used _ _ _ _ hsw]
  refine wpAny_bind (wpAny_standAt (wpAny_bind ?_))
  show wpAny _ X.A (do let _ ← comprehension (.ListComp elt [⟨.Name x px, iter, ifs, 0⟩] scope pos) scope X.env _ (newList []) false (eval iter X.env) (some (assign (.Name y py) X.env))) _ _ s
  refine wpAny_bind (wpAny_mono (wpAny_comprehension_free (use := some (assign (.Name y py) X.env)) (Q := fun _ s' => SP X pins Dn .next s') rfl hs (closure_is hfree) ok'.kind ok'.names
    (thn (hi pins s σ H _ I h) fun v s1 h1 => thn h1 fun itv s2 h2 => ?_)) (fun _ s' hq => wpAny_pure (wpAny_pure hq)) fun _ _ e => e)
  obtain ⟨it, fp, tn, J, H2, e, I2, T, st2, f2, W, w0, hW⟩ := h2
  subst e
  refine comp_core (RR := fun acc C => compPost (model X.prog X.w) X.A X.xe (some (assign (.Name y py) X.env)) (fun _ s' => SP X pins Dn .next s') acc C) ok' hc hif he I2 T st2 f2 w0 hW fun D C ys H' s' hD fin I' fC hm => ?_
  obtain ⟨m, hm⟩ := hm
  show wpAny _ X.A (assign (.Name y py) X.env (.ref D)) _ _ _
  obtain ⟨g0, g1, g2, g3, g4, g5⟩ := fC
  refine wpAny_assign_Name (store_ok2 (i := i) (v := .ref D) I' hN hiy (.inl hy) rfl (fun s'' I'' hch => ?_) (.inr hy))
  obtain ⟨a, hsb, ha⟩ := hch
  have hCa : C ≠ a := by
    rcases ha with z | z
    · rw [z]; exact g1
    · exact fun z' => g4 _ _ z z'.symm
  refine ⟨m, hm.sameBut hsb hCa, fun h' hsb' => ?_⟩
  exact ⟨_, _, I''.turned (t' := s''.toks) (fun b o hb e => Heap.SameBut.keeps hsb' hb e) g0 g1 g3 g4 g5, fin D hD⟩
end
end L2

set_option Elab.async false
set_option linter.all false
set_option maxRecDepth 100000
namespace L2
open PySem PySem.Spec PyProof.Rows

/-! ## Errors of own classes: raised, carried out of a def, caught -/

theorem ObjOk.there {P : Program} {w : World} {H : Hp} {h : Heap} {a : Addr} {o : HO} (x : ObjOk P w H h a o) : ∃ ob, h.get? a = some ob := by
  cases o with
  | lst xs => obtain ⟨_, _, _, _, e⟩ := x; exact ⟨_, e⟩
  | tup xs => obtain ⟨_, _, _, ob, e, _⟩ := x; exact ⟨_, e⟩
  | dK kvs => obtain ⟨_, _, _, _, o, _, _, e, _⟩ := x; exact ⟨_, e⟩
  | dT kvs => obtain ⟨_, _, _, _, o, _, _, e, _⟩ := x; exact ⟨_, e⟩
  | set S n => obtain ⟨o, _, _, _, e, _⟩ := x; exact ⟨_, e⟩
  | ins C dx fs => obtain ⟨_, _, _, e, _⟩ := x; exact ⟨_, e⟩
  | own y => obtain ⟨_, e⟩ := x; exact ⟨_, e⟩
  | xd fs => obtain ⟨_, ⟨_, _, _, e, _⟩, _⟩ := x; exact ⟨_, e⟩
  | rng lo hi => obtain ⟨_, _, _, e⟩ := x; exact ⟨_, e⟩
  | frz ob u => obtain ⟨e, _⟩ := x; exact ⟨_, e⟩
  | tbl ps => exact ⟨_, show h.get? a = some _ from x⟩
  | met f y => exact ⟨_, show h.get? a = some _ from x⟩
  | ext φ => obtain ⟨_, e, _⟩ := x; exact e

/-- an error in flight behind a call: its object at ea, of the class at C; h0 the heap ahead of the call -/
structure Fly (outer : List Env) (H' : Hp) (h0 : Heap) (ea C : Addr) (h : Heap) : Prop where
  free : H' ea = none
  new : h0.get? ea = none
  fl : ∃ (B : Heap) (t : Addr), Heap.FlyingW B outer ea (.ref C) (.ref t) h ∧ ∀ b o, h.get? b = some o → (H' b ≠ none ∨ ∃ o', h0.get? b = some o') → b ∉ frs outer → B.get? b = some o

def CXE (P : Program) (w : World) : CXT := fun outer H s E e s' => ∃ ea C H', e = .ref ea ∧ s'.os = s.os ∧ AllBare s'.gens ∧ Un (frs outer) [] H H' s.heap s'.heap ∧ HOk P w H' s'.heap ∧ Fly outer H' s.heap ea C s'.heap ∧ E (.ref C) none H'

section
variable {P : Program} {w : World} {K : PySem.W.Frag} {mg : Str → Option Value} {base : Heap} {N : List Str} {qual : Str} {scope : Scope} {f : Addr} {cd : Value} {A : Around} {outer : List Env} {s0 : Shared} {H0 : Hp} {E : XK}
theorem raise_ok {pins : List (Addr × Obj)} {σ : St} {H : Hp} {s : Shared} {h' : Heap} {e C : Addr} {vs : List Value} (I : Inv (cxOf (CXE P w) P w K mg base N qual scope f cd A outer s0 H0 E) pins σ H s)
    (hx : Heap.MadeExcOf s.heap h' e (.ref C) vs) (hE : E (.ref C) none H) : (cxOf (CXE P w) P w K mg base N qual scope f cd A outer s0 H0 E).xe (.ref e) { s with heap := h' } := by
  have hfrs : ∀ b, b ∈ frs (envOfC qual scope s0.heap.objs.size f cd :: outer) → b = s0.heap.objs.size ∨ b ∈ frs outer := fun b hb => List.mem_cons.mp (I.stkSub b hb)
  have hB : ∀ b o, s.heap.get? b = some o → b ∉ frs (envOfC qual scope s0.heap.objs.size f cd :: outer) → (PySem.W.hideAll s.heap (frs (envOfC qual scope s0.heap.objs.size f cd :: outer))).get? b = some o := fun b o e n => PySem.W.hideAll_get _ e n
  show wpAny (model P w) (A.deeper (envOfC qual scope s0.heap.objs.size f cd)) (leaving (envOfC qual scope s0.heap.objs.size f cd) (.ref e)) (fun _ s'' => CXE P w outer H0 s0 E (.ref e) s'') (fun e' s'' => CXE P w outer H0 s0 E e' s'') { s with heap := h' }
  refine wpAny_leaves_madeW (base := PySem.W.hideAll s.heap (frs (envOfC qual scope s0.heap.objs.size f cd :: outer))) (h := s.heap) I.ok.frames rfl (fun b o q => PySem.W.of_hideAll _ q)
    (PySem.W.funFrames_hide I.stack fun env he a ha => List.mem_filterMap.mpr ⟨env, he, ha⟩) hx fun h'' t fl _ _ sm => ?_
  have new : s.heap.get? e = none := hx.new
  have sm' : s.heap.UpToSlots h'' := (Heap.UpToSlots.of_keeps hx.keeps).trans sm
  have stays := fl.1
  have keepB : ∀ b o, s.heap.get? b = some o → b ∉ frs (envOfC qual scope s0.heap.objs.size f cd :: outer) → h''.get? b = some o := fun b o q n => stays b o (hB b o q n)
  have notL : ∀ b o, s0.heap.get? b = some o → b ∉ frs outer → b ∉ frs (envOfC qual scope s0.heap.objs.size f cd :: outer) := fun b o q n hb => by
    rcases hfrs b hb with z | z
    · exact Nat.ne_of_lt (Heap.lt_size q) z
    · exact n z
  have trk : ∀ b u, H b = some u → b ∉ frs (envOfC qual scope s0.heap.objs.size f cd :: outer) := fun b u q hb => by
    have := I.stkFree b hb
    rw [q] at this; cases this
  have there0 : ∀ b o, s0.heap.get? b = some o → ∃ o', s.heap.get? b = some o' := fun b o q => I.base.there b o q (by show b ∉ []; simp)
  refine ⟨e, C, H, rfl, I.os, I.bare, ⟨fun b o q n hb _ => ?_, fun b o q n hb _ => ?_, fun b o q n hx' => I.base.free b o q n (by show b ∉ []; simp), fun b o q _ => ?_, I.base.tups, I.base.frzs, I.base.tbls⟩, fun a o q => ?_, ⟨?_, ?_, ?_⟩, hE⟩
  · exact keepB b o (I.base.keep b o q n hb (by show b ∉ []; simp)) (notL b o q hb)
  · obtain ⟨sl, e1⟩ := I.base.slot b o q n hb (by show b ∉ []; simp)
    obtain ⟨_, o', ho', hd⟩ := I.funs.mem hb
    rw [e1] at ho'; cases ho'
    obtain ⟨sl', e2⟩ := sm' b _ e1 hd
    exact ⟨sl', e2⟩
  · obtain ⟨o', e1⟩ := there0 b o q
    by_cases hb : b ∈ frs (envOfC qual scope s0.heap.objs.size f cd :: outer)
    · obtain ⟨_, o2, ho2, hd⟩ := I.stack.mem hb
      obtain ⟨sl', e2⟩ := sm' b _ ho2 hd
      exact ⟨_, e2⟩
    · exact ⟨o', keepB b o' e1 hb⟩
  · refine (I.hok a o q).stay (fun b u hb z => keepB b u z ?_) (fun _ z => z) fun _ _ z => z
    rcases hb with rfl | hb
    · exact trk b o q
    · exact trk b _ hb
  · cases q : H e with
    | none => rfl
    | some o =>
      obtain ⟨ob, z⟩ := (I.hok e o q).there
      rw [new] at z; cases z
  · cases q : s0.heap.get? e with
    | none => rfl
    | some o =>
      obtain ⟨ob, z⟩ := there0 e o q
      rw [new] at z; cases z
  · refine ⟨_, t, fl, fun b o q hb n => ?_⟩
    have key : ∃ o', s.heap.get? b = some o' ∧ b ∉ frs (envOfC qual scope s0.heap.objs.size f cd :: outer) := by
      rcases hb with z | ⟨o', z⟩
      · cases r : H b with
        | none => exact absurd r z
        | some u =>
          obtain ⟨ob, y⟩ := (I.hok b u r).there
          exact ⟨ob, y, trk b u r⟩
      · obtain ⟨o2, y⟩ := there0 b o' z
        exact ⟨o2, y, notL b o' z n⟩
    obtain ⟨o', y, n'⟩ := key
    have := keepB b o' y n'
    rw [q] at this; cases this
    exact hB b o y n'
end

/-- what of the text an own error class must have: it stands under ValueError, with no __init__ of its own on the way -/
structure ErrCls (K : PySem.W.Frag) (C : Addr) : Prop where
  ex : PySem.W.excIn K C [.type "ValueError", .type "Exception", .type "BaseException", .type "object"] "ValueError.__new__" = true
theorem ErrCls.obj {K : PySem.W.Frag} {C : Addr} (c : ErrCls K C) {h : Heap} (X : K.In h) : ∃ tl N nm q bs hdct sn sub ab col dd k0 k1 k2 k3 k5 mN, h.get? C = some (excClassObj nm q C N bs tl hdct sn sub ab col dd k0 k1 k2 k3 k5 "ValueError.__new__") ∧ h.Ns N mN ∧ mN "__init__" = none ∧
    OwnTail h [.type "ValueError", .type "Exception", .type "BaseException", .type "object"] tl := by
  have q := c.ex
  unfold PySem.W.excIn at q
  split at q
  · rename_i dd cd sl ho
    split at q
    · rename_i C' bm k0 k1 k2 k3 n k5 hm hs
      simp only [Bool.and_eq_true, beq_iff_eq, Bool.not_eq_true'] at q
      obtain ⟨⟨⟨⟨⟨rfl, rfl⟩, hdel⟩, ht⟩, hok⟩, hni⟩ := q
      obtain ⟨nm, bs, mro, ns, qn, hd, sn, sub, ab, col, del⟩ := cd
      dsimp only at hm hdel hok hni
      subst hm hdel
      have hsl : sl = #[k0, k1, k2, k3, some (.builtin "ValueError.__new__"), k5] := by
        obtain ⟨l⟩ := sl
        simp only at hs
        rw [hs]
      subst hsl
      exact ⟨bm, ns, nm, qn, bs, hd, sn, sub, ab, col, dd, k0, k1, k2, k3, k5, _, X _ _ ho, .of_isNs (PySem.W.isNs_of_in X hok), PySem.W.nsMap_none_of_in X hok hni, PySem.W.tail_of_in X ht⟩
    · cases q
  · cases q

/-- raise C(e, ..) -/
def tRaise (t : TA) (C : Addr) (E : XK) : TS := fun _ σ H => t σ H fun vs H1 => vs.length ≤ sizeLine ∧ E (.ref C) none H1
section
variable {P : Program} {w : World} {K : PySem.W.Frag} {mg : Str → Option Value} {base : Heap} {N : List Str} {qual : Str} {scope : Scope} {f : Addr} {cd : Value} {A : Around} {outer : List Env} {s0 : Shared} {H0 : Hp} {E : XK}
theorem ps_raise {x : Str} {np cpos pos : Pos} {e₀ : Expr} {rest : List Expr} {t : TA} {C : Addr} (c : ErrCls K C) (hg : Gl (cxOf (CXE P w) P w K mg base N qual scope f cd A outer s0 H0 E) x) (hm : mg x = some (.ref C)) (hh : A.handled = none)
    (ha : PA (cxOf (CXE P w) P w K mg base N qual scope f cd A outer s0 H0 E) (e₀ :: rest) t) (hd : (x == ("__debug__" : Str)) = false := by decide)
    (he : starEach (e₀ :: rest) (envOfC qual scope s0.heap.objs.size f cd) = (false, eval e₀ (envOfC qual scope s0.heap.objs.size f cd)) :: starEach rest (envOfC qual scope s0.heap.objs.size f cd) := by rfl)
    (hplain : (backTo cpos (starEach rest (envOfC qual scope s0.heap.objs.size f cd))).any (·.1) = false := by rfl) :
    PS (cxOf (CXE P w) P w K mg base N qual scope f cd A outer s0 H0 E) (.Raise (some (.Call (.Name x np) (e₀ :: rest) [] cpos)) none pos) (tRaise t C E) := by
  intro pins s σ H D I h
  obtain ⟨tl, Na, nm, q, bs, hdct, sn, sub, ab, col, dd, k0, k1, k2, k3, k5, mN, hC, hN, hni, T⟩ := c.obj I.mod.kin
  refine wpAny_Raise_call_subU (C := C) (nm := nm) (q := q) (N := Na) (bs := bs) (bm := tl) (hdct := hdct) (sn := sn) (sub := sub) (ab := ab) (col := col) (dd := dd) (k0 := k0) (k1 := k1) (k2 := k2) (k3 := k3) (k5 := k5)
    PySem.F.excBase_ValueError (by decide) PySem.F.excBase_ValueError (mN := mN) (T.hasType PySem.F.excBase_ValueError.hasBase) hh (by
      show (backTo cpos (starEach (e₀ :: rest) (envOfC qual scope s0.heap.objs.size f cd))).any (·.1) = false
      rw [he]; show (false || (backTo cpos (starEach rest (envOfC qual scope s0.heap.objs.size f cd))).any (·.1)) = false; rw [hplain]; rfl) hni (ld_glob I hg hm ⟨rfl, ?_⟩ hd)
  have h2 := ha cpos pins s σ H _ I h
  show wpAny (model P w) _ (evalArgs (.ref C) true (backTo cpos (starEach (e₀ :: rest) (envOfC qual scope s0.heap.objs.size f cd))) []) _ _ s
  have h3 : wpAny (model P w) (A.deeper (envOfC qual scope s0.heap.objs.size f cd)) (spliced (backTo cpos (starEach (e₀ :: rest) (envOfC qual scope s0.heap.objs.size f cd)))) _ _ s := h2
  rw [he] at h3 ⊢
  refine Calls.evalArgs_plain (wpAny_mono h3 (fun vs s₂ h₂ => ?_) fun _ _ y => y)
  obtain ⟨xs, H1, I1, r, hz, hE⟩ := h₂
  have keep : ∀ b o, base.get? b = some o → s₂.heap.get? b = some o := I1.bk
  exact ⟨rfl, by rw [← r.length]; exact hz, keep _ _ hC, hN.keeps keep, T.keeps keep, fun h' e hx => raise_ok I1 hx hE⟩
end

/-! ### a call whose error is caught -/
section
variable {X : Cx}
/-- an error stands behind a call made in a state of ours -/
def XP (X : Cx) (pins : List (Addr × Obj)) (Ex : St → Value → Hp → Prop) (ev : Value) (s' : Shared) : Prop := ∃ σ H s, Inv X pins σ H s ∧ CXE X.prog X.w X.stack H s (fun c _ H' => Ex σ c H') ev s'
abbrev TEX := St → Hp → VK → (Value → Hp → Prop) → Prop
def PEX (X : Cx) (e : Expr) (t : TEX) : Prop :=
  ∀ (pins : List (Addr × Obj)) (s : Shared) (σ : St) (H : Hp) (Q : VK) (E : Value → Hp → Prop), Inv X pins σ H s → t σ H Q E → wpAny (model X.prog X.w) X.A (eval e X.env) (EP X pins σ Q) (XP X pins fun σ' c H' => σ' = σ ∧ E c H') s
abbrev TSX := Ends → (St → Value → Hp → Prop) → St → Hp → Prop
def PSX (X : Cx) (st : List Stmt) (t : TSX) : Prop :=
  ∀ (pins : List (Addr × Obj)) (s : Shared) (σ : St) (H : Hp) (D : Ends) (Ex : St → Value → Hp → Prop), Inv X pins σ H s → t D Ex σ H → wpAny (model X.prog X.w) X.A (execs st X.env) (SP X pins D) (XP X pins Ex) s

variable {k : Nat} {f C : Addr} {fd : FuncData} {ps : List Str} {sp : Sp} {dvs : List V} {ds : List Value} {x : Str} {p pos : Pos} {e : Expr} {es : List Expr} {t : TA} {CX : CXT} {E : XK}
theorem run_fnX {pins : List (Addr × Obj)} {σ : St} {H : Hp} {s : Shared} {Q : VK} {us : List Value} {vs : List V} {E' : Value → Shared → Prop} (F : FnOk X.prog X.w X.K X.mg X.base CX k f fd ps sp) (hr : Room k X.A) (hb : Binds X.K fd ps ds) (hd : Vals dvs ds)
    (I : Inv X pins σ H s) (r : Vals vs us) (h : sp (vs ++ dvs) H Q E) (hx : ∀ e s', CX X.stack H s E e s' → E' e s') : wpAny (model X.prog X.w) X.A (call (.ref f) us) (EP X pins σ Q) E' s := by
  have r2 : Vals (vs ++ dvs) (us ++ ds) := r.append hd
  have hl : (us ++ ds).length = ps.length := by rw [← r2.length]; exact F.len _ _ _ _ h
  refine wpAny_call (codeAny_mono (F.run X.A X.stack s H ⟨us, []⟩ (us ++ ds) (vs ++ dvs) Q E hr I.env0 (hb s us I.kIn hl) r2 h) fun r s' hq => ?_)
  cases r with
  | error e => exact hx e s' hq
  | ok fl =>
    cases fl with
    | ret u => exact I.after hq
    | next => exact False.elim hq
    | brk => exact False.elim hq
    | cont => exact False.elim hq
theorem run_makeX {pins : List (Addr × Obj)} {σ : St} {H : Hp} {s : Shared} {Q : VK} {us : List Value} {vs : List V} {E' : Value → Shared → Prop} (M : Mk X.K C f) (F : FnOk X.prog X.w X.K X.mg X.base CX k f fd ps sp) (hr : Room (k + 1) X.A) (hb : Binds X.K fd ps ds) (hd : Vals dvs ds)
    (I : Inv X pins σ H s) (r : Vals vs us)
    (h : ∀ x dx, H x = none → H dx = none → dx ≠ x → sp (.ref x :: (vs ++ dvs)) (upd (upd H dx (.own x)) x (.ins C dx [])) (fun v H2 => v = .non ∧ Q (.ref x) H2) E)
    (hx : ∀ H1 s1, Inv X pins σ H1 s1 → ∀ e s', CX X.stack H1 s1 E e s' → E' e s') :
    wpAny (model X.prog X.w) X.A (call (.ref C) us) (EP X pins σ Q) E' s := by
  have hq := h (s.heap.objs.size + 1) s.heap.objs.size (I.hok.fresh (Nat.le_succ _)) (I.hok.fresh (Nat.le_refl _)) (Nat.ne_of_lt (Nat.lt_succ_self _))
  have I2 := Inv.made (C := C) I
  have r2 : Vals (V.ref (s.heap.objs.size + 1) :: (vs ++ dvs)) (Value.ref (s.heap.objs.size + 1) :: (us ++ ds)) := .cons rfl (r.append hd)
  have hl : (Value.ref (s.heap.objs.size + 1) :: us ++ ds).length = ps.length := by
    have e := r2.length
    rw [F.len _ _ _ _ hq] at e
    exact e.symm
  refine wpAny_call (make_map (f := f) I.kIn M.makes M.init (beq_iff_eq.mp M.fn) (codeAny_mono (F.run _ X.stack _ _ ⟨Value.ref (s.heap.objs.size + 1) :: us, []⟩ (Value.ref (s.heap.objs.size + 1) :: (us ++ ds)) _ _ E (hr.make C us [])
    (I2.env0.make C us []) (hb _ (Value.ref (s.heap.objs.size + 1) :: us) I2.kIn hl) r2 hq) fun r s' hq' => ?_))
  cases r with
  | error e => exact hx _ _ I2 e s' hq'
  | ok fl =>
    cases fl with
    | ret u =>
      obtain ⟨v, H', I3, rv, ev, q3⟩ := I2.after hq'
      subst ev
      exact ⟨rv, ⟨V.ref (s.heap.objs.size + 1), H', I3, rfl, q3⟩⟩
    | next => exact False.elim hq'
    | brk => exact False.elim hq'
    | cont => exact False.elim hq'

def tCallX (sp : Sp) (dvs : List V) (t : TA) : TEX := fun σ H Q E => t σ H fun vs H1 => sp (vs ++ dvs) H1 Q fun c _ H' => E c H'
def tMakeX (C : Addr) (sp : Sp) (dvs : List V) (t : TA) : TEX := fun σ H Q E => t σ H fun vs H1 => ∀ x dx, H1 x = none → H1 dx = none → dx ≠ x →
  sp (.ref x :: (vs ++ dvs)) (upd (upd H1 dx (.own x)) x (.ins C dx [])) (fun v H2 => v = .non ∧ Q (.ref x) H2) fun c _ H' => E c H'
theorem pex_call (F : FnOk X.prog X.w X.K X.mg X.base (CXE X.prog X.w) k f fd ps sp) (hr : Room k X.A) (hg : Gl X x) (hm : X.mg x = some (.ref f)) (hk : PySem.W.keepIn X.K (.ref f) = true) (hb : Binds X.K fd ps ds) (hd : Vals dvs ds)
    (ha : PA X.nox (e :: es) t) (hdb : (x == ("__debug__" : Str)) = false := by decide) (he : starEach (e :: es) X.env = (false, eval e X.env) :: starEach es X.env := by rfl) (hpl : (backTo pos (starEach es X.env)).any (·.1) = false := by rfl) :
    PEX X (.Call (.Name x p) (e :: es) [] pos) (tCallX sp dvs t) := by
  intro pins s σ H Q E I h
  refine wpAny_Call_Name_kw (ld_glob I hg hm ?_ hdb)
  refine PySem.W.callWith_K (h₀ := X.base) I.ok.mod.kin hk (wpAny_mono (ha pos pins s σ H _ (I.wish _) h) (fun us s1 ⟨vs, H1, I1, r, q⟩ => ⟨I1.kIn, ?_⟩) fun _ _ z => False.elim z) he hpl
  exact run_fnX F hr hb hd I1.unwish r q fun ev s' hq => ⟨σ, H1, s1, I1.unwish, by
    obtain ⟨ea, C, H', h1, h2, h3, h4, h5, h6, h7⟩ := hq
    exact ⟨ea, C, H', h1, h2, h3, h4, h5, h6, rfl, h7⟩⟩
theorem pex_make (M : Mk X.K C f) (F : FnOk X.prog X.w X.K X.mg X.base (CXE X.prog X.w) k f fd ps sp) (hr : Room (k + 1) X.A) (hg : Gl X x) (hm : X.mg x = some (.ref C)) (hb : Binds X.K fd ps ds) (hd : Vals dvs ds)
    (ha : PA X.nox (e :: es) t) (hdb : (x == ("__debug__" : Str)) = false := by decide) (he : starEach (e :: es) X.env = (false, eval e X.env) :: starEach es X.env := by rfl) (hpl : (backTo pos (starEach es X.env)).any (·.1) = false := by rfl) :
    PEX X (.Call (.Name x p) (e :: es) [] pos) (tMakeX C sp dvs t) := by
  intro pins s σ H Q E I h
  refine wpAny_Call_Name_kw (ld_glob I hg hm ?_ hdb)
  refine PySem.W.callWith_K (h₀ := X.base) I.ok.mod.kin M.kp (wpAny_mono (ha pos pins s σ H _ (I.wish _) h) (fun us s1 ⟨vs, H1, I1, r, q⟩ => ⟨I1.kIn, ?_⟩) fun _ _ z => False.elim z) he hpl
  exact run_makeX M F hr hb hd I1.unwish r q fun H2 s2 I2 ev s' hq => ⟨σ, H2, s2, I2, by
    obtain ⟨ea, C', H', h1, h2, h3, h4, h5, h6, h7⟩ := hq
    exact ⟨ea, C', H', h1, h2, h3, h4, h5, h6, rfl, h7⟩⟩
/-- return e; name = e -/
def tRetX (te : TEX) : TSX := fun D Ex σ H => te σ H D.rt (Ex σ)
theorem psx_ret {e : Expr} {te : TEX} {pos : Pos} (he : PEX X e te) : PSX X [.Return (some e) pos] (tRetX te) := by
  intro pins s σ H D Ex I h
  refine wpAny_execs_cons (wpAny_Return_some (wpAny_mono (he pins s σ H _ _ I h) (fun v s1 ⟨y, H1, I1, r1, q1⟩ => ⟨y, σ, H1, I1, r1, q1⟩) fun ev s' hq => ?_))
  obtain ⟨σ', H', s2, I2, ea, C, H3, h1, h2, h3, h4, h5, h6, e1, h7⟩ := hq
  subst e1
  exact ⟨σ', H', s2, I2, ea, C, H3, h1, h2, h3, h4, h5, h6, h7⟩
def tSetX (te : TEX) (i : Nat) : TSX := fun D Ex σ H => te σ H (fun v H1 => D.nx (σ.set i (some v)) H1) (Ex σ)
theorem psx_set {i : Nat} {y : Str} {e : Expr} {te : TEX} {pos pos' : Pos} (hN : X.N.Nodup) (hi : X.N[i]? = some y) (hy : Loc X.env.scope y) (he : PEX X e te) (hs : swapsWith e (some (.Name y pos')) pos.line X.env = pure false := by rfl)
    (hf : X.fn y = true ∨ X.env.scope.names.lookup y = some .local := by first | exact .inl rfl | exact .inr rfl | assumption) : PSX X [.Assign [.Name y pos'] e pos] (tSetX te i) := by
  intro pins s σ H D Ex I h
  refine wpAny_execs_cons (wpAny_Assign_Name (wpAny_mono (he pins s σ H _ _ I h) (fun v s1 ⟨z, H1, I1, r1, q1⟩ => ?_) fun ev s' hq => ?_) hs)
  · exact store_ok I1 hN hi hy r1 (fun s2 I2 => wpAny_execs_nil ⟨_, H1, I2, q1⟩) hf
  · obtain ⟨σ', H', s2, I2, ea, C, H3, h1, h2, h3, h4, h5, h6, e1, h7⟩ := hq
    subst e1
    exact ⟨σ', H', s2, I2, ea, C, H3, h1, h2, h3, h4, h5, h6, h7⟩
end
end L2
namespace L2
open PySem PySem.Spec PyProof.Rows
section
variable {X : Cx}

/-- the context of an except suite -/
def cxHand (X : Cx) (ea : Addr) : Cx := { X with A := X.A.mark (some (.ref ea)), calm := false, xe := fun _ _ => False }
theorem Inv.hand {pins : List (Addr × Obj)} {σ : St} {H : Hp} {s : Shared} (I : Inv X pins σ H s) (ea : Addr) : Inv (cxHand X ea) pins σ H s :=
  ⟨⟨I.ok.mod, I.ok.kind, I.ok.glob, I.ok.blt, I.ok.above, I.ok.inj, I.ok.has, I.ok.cab, fun z => absurd (show false = true from z) (by decide), I.ok.frames, I.ok.stk, I.ok.exf, I.ok.bs, I.ok.bsz, I.ok.noex, I.ok.exfs, I.ok.funs, I.ok.frf⟩,
    I.os, I.bare, I.base, I.loc, I.cell, I.free, I.freeC, I.pin, I.hok, I.len⟩
theorem Inv.unhand {ea : Addr} {pins : List (Addr × Obj)} {σ : St} {H : Hp} {s : Shared} (ok : X.Ok) (I : Inv (cxHand X ea) pins σ H s) : Inv X pins σ H s :=
  ⟨ok, I.os, I.bare, I.base, I.loc, I.cell, I.free, I.freeC, I.pin, I.hok, I.len⟩

/-- the frame's own names are forgotten -/
theorem Inv.namesGone {pins : List (Addr × Obj)} {σ : St} {H : Hp} {s : Shared} {h' : Heap} {m' : Str → Option Value} {tk : Nat} (I : Inv X pins σ H s) (hn : h'.Ns X.env.locals m') (hs : Heap.SameBut X.env.locals s.heap h') :
    Inv X pins (σ.map fun _ => none) H { s with heap := h', toks := tk } := by
  have neL : ∀ b o, X.s₀.heap.get? b = some o → b ≠ X.env.locals := fun b o e => Nat.ne_of_lt (Nat.lt_of_lt_of_le (Heap.lt_size e) I.ok.above)
  refine ⟨I.ok, I.os, I.bare, ⟨fun b o e n hb hx => ?_, fun b o e n hb hx => ?_, I.base.free, fun b o e hx => ?_, I.base.tups, I.base.frzs, I.base.tbls⟩, ⟨m', hn, fun j y v e1 e2 e3 => ?_⟩, fun y c e => ?_, I.free, I.freeC, fun p hp => ?_, fun b u e => ?_, ?_⟩
  · exact (hs.2 b (neL b o e)).trans (I.base.keep b o e n hb hx)
  · obtain ⟨sl, e1⟩ := I.base.slot b o e n hb hx
    exact ⟨sl, (hs.2 b (neL b o e)).trans e1⟩
  · obtain ⟨o', e1⟩ := I.base.there b o e hx
    exact ⟨o', (hs.2 b (neL b o e)).trans e1⟩
  · exfalso
    rw [List.getElem?_map] at e2
    cases q : σ[j]? with
    | none => rw [q] at e2; cases e2
    | some z => rw [q] at e2; cases e2
  · obtain ⟨v, z⟩ := I.cell y c e
    exact ⟨v, z.sameBut hs (I.cne y c e)⟩
  · obtain ⟨e, n, ne, nf, d⟩ := I.pin p hp
    exact ⟨(hs.2 p.1 ne).trans e, n, ne, nf, d⟩
  · refine (I.hok b u e).stay (fun c v hc q => (hs.2 c ?_).trans q) (fun _ q => q) fun _ _ q => q
    rintro rfl
    rcases hc with z | hc
    · rw [← z, I.free] at e; cases e
    · rw [I.free] at hc; cases hc
  · rw [List.length_map]; exact I.len

/-- behind a call that raised, however often its error's own records have turned since -/
theorem land {pins : List (Addr × Obj)} {σ : St} {H H' : Hp} {s s' s'' : Shared} {B : Heap} (I : Inv X pins σ H s) (os : s'.os = s.os) (un : Un (frs X.stack) [] H H' s.heap s'.heap) (hok : HOk X.prog X.w H' s'.heap)
    (KB : ∀ b o, s'.heap.get? b = some o → (H' b ≠ none ∨ ∃ o', s.heap.get? b = some o') → b ∉ frs X.stack → B.get? b = some o) (st : B.StaysIn s''.heap) (sm : s'.heap.UpToSlots s''.heap) (os'' : s''.os = s'.os) (bare : AllBare s''.gens) : Inv X pins σ H' s'' := by
  have fr : ∀ b ∈ frs X.stack, ∃ o sl, s.heap.get? b = some o ∧ (∀ vs, o.data ≠ .fields vs) ∧ H b = none ∧ s'.heap.get? b = some { o with slots := sl } ∧ H' b = none := fun b hb => by
    obtain ⟨_, o, ho, hd⟩ := I.stack.mem hb
    have hn := I.stkFree b hb
    obtain ⟨sl, e⟩ := un.slot b o ho hn hb (by simp)
    exact ⟨o, sl, ho, hd, hn, e, un.free b o ho hn (by simp)⟩
  refine I.call' (os''.trans os) (ch := []) ⟨fun b o e n hb hx => ?_, fun b o e n hb hx => ?_, un.free, fun b o e hx => ?_, un.tups, un.frzs, un.tbls⟩ (fun a o e => ?_) bare (fun b hb => absurd hb (by simp))
  · exact st b o (KB b o (un.keep b o e n hb hx) (.inr ⟨o, e⟩) hb)
  · obtain ⟨o1, sl, e1, hd, _, e2, _⟩ := fr b hb
    rw [e] at e1; cases e1
    obtain ⟨sl', e3⟩ := sm b _ e2 hd
    exact ⟨sl', e3⟩
  · by_cases hb : b ∈ frs X.stack
    · obtain ⟨o1, sl, e1, hd, _, e2, _⟩ := fr b hb
      obtain ⟨sl', e3⟩ := sm b _ e2 hd
      exact ⟨_, e3⟩
    · obtain ⟨o', e1⟩ := un.there b o e hx
      exact ⟨o', st b o' (KB b o' e1 (.inr ⟨o, e⟩) hb)⟩
  · have nf : ∀ b u, H' b = some u → b ∉ frs X.stack := fun b u q hb => by
      obtain ⟨_, _, _, _, _, _, z⟩ := fr b hb
      rw [q] at z; cases z
    refine (hok a o e).stay (fun b u hb q => ?_) (fun _ q => q) fun _ _ q => q
    rcases hb with rfl | hb
    · exact st b u (KB b u q (.inl (by rw [e]; simp)) (nf b o e))
    · exact st b u (KB b u q (.inl (by rw [hb]; simp)) (nf b _ hb))

/-- an error that was caught, ahead of its handlers -/
structure Air (X : Cx) (pins : List (Addr × Obj)) (σ : St) (H' : Hp) (ea C : Addr) (s'' : Shared) : Prop where
  ex : ∃ (H : Hp) (s s' : Shared) (B : Heap) (t : Addr), Inv X pins σ H s ∧ s'.os = s.os ∧ Un (frs X.stack) [] H H' s.heap s'.heap ∧ HOk X.prog X.w H' s'.heap ∧
    (∀ b o, s'.heap.get? b = some o → (H' b ≠ none ∨ ∃ o', s.heap.get? b = some o') → b ∉ frs X.stack → B.get? b = some o) ∧ Heap.FlyingW B X.stack ea (.ref C) (.ref t) s''.heap ∧ s'.heap.UpToSlots s''.heap ∧ s''.os = s'.os ∧ AllBare s''.gens ∧ s.heap.get? ea = none ∧ H' ea = none
theorem Air.inv {pins : List (Addr × Obj)} {σ : St} {H' : Hp} {ea C : Addr} {s'' : Shared} (a : Air X pins σ H' ea C s'') : Inv X pins σ H' s'' := by
  obtain ⟨H, s, s', B, t, I, os, un, hok, KB, fl, sm, os'', bare, _, _⟩ := a.ex
  exact land I os un hok KB fl.1 sm os'' bare
theorem Air.obj {pins : List (Addr × Obj)} {σ : St} {H' : Hp} {ea C : Addr} {s'' : Shared} (a : Air X pins σ H' ea C s'') : ∃ ob, s''.heap.get? ea = some ob ∧ ob.cls = .ref C := by
  obtain ⟨H, s, s', B, t, I, os, un, hok, KB, fl, sm, os'', bare, _, _⟩ := a.ex
  exact fl.there
theorem Air.free {pins : List (Addr × Obj)} {σ : St} {H' : Hp} {ea C : Addr} {s'' : Shared} (a : Air X pins σ H' ea C s'') : H' ea = none := by
  obtain ⟨H, s, s', B, t, I, os, un, hok, KB, fl, sm, os'', bare, _, z⟩ := a.ex
  exact z
/-- its record turns once more -/
theorem Air.again {pins : List (Addr × Obj)} {σ : St} {H' : Hp} {ea C : Addr} {s'' : Shared} {M : Model} {A : Around} {E : Value → Shared → Prop} {Q : Unit → Shared → Prop} (a : Air X pins σ H' ea C s'')
    (hQ : ∀ h', Air X pins σ H' ea C { s'' with heap := h' } → Q () { s'' with heap := h' }) : wpAny M A (setFlight (.ref ea) none) Q E s'' := by
  obtain ⟨H, s, s', B, t, I, os, un, hok, KB, fl, sm, os'', bare, n1, n2⟩ := a.ex
  exact lands_againW fl fun h' fl' sm' => hQ h' ⟨H, s, s', B, t, I, os, un, hok, KB, fl', sm.trans sm', os'', bare, n1, n2⟩

/-- what a caught error is tracked as -/
def ErrO (ea C : Addr) : HO := .ext fun h => ∃ ob, h.get? ea = some ob ∧ ob.cls = .ref C
theorem errO_ok {P : Program} {w : World} {H : Hp} {h : Heap} {ea C : Addr} (e : ∃ ob, h.get? ea = some ob ∧ ob.cls = .ref C) : ObjOk P w H h ea (ErrO ea C) := by
  obtain ⟨ob, e1, e2⟩ := e
  exact ⟨⟨ob, e1, e2⟩, ⟨ob, e1⟩, fun h1 h2 ⟨o, q1, q2⟩ k => ⟨o, k o q1, q2⟩⟩

theorem Inv.track' {pins : List (Addr × Obj)} {σ : St} {H : Hp} {s : Shared} {D : Addr} {o : HO} (I : Inv X pins σ H s) (hn : H D = none) (h0 : X.s₀.heap.get? D = none) (hL : D ≠ X.env.locals)
    (hc : ∀ x c, X.env.cells.lookup x = some c → c ≠ D) (hp : ∀ p ∈ X.pn ++ pins, p.1 ≠ D) (new : ObjOk X.prog X.w (upd H D o) s.heap D o) : Inv X pins σ (upd H D o) s := by
  have ne : ∀ b u, H b = some u → b ≠ D := fun b u e => ne_of_none e hn
  refine ⟨I.ok, I.os, I.bare, ⟨I.base.keep, I.base.slot, fun b u e n hx => ?_, I.base.there, fun b xs e => ?_, fun b u xs e => ?_, fun b ps e => ?_⟩, I.loc, I.cell, ?_, fun x c e => ?_, fun p q => ?_, fun b u e => ?_, I.len⟩
  · rw [upd_ne (fun z => by rw [z, h0] at e; cases e)]
    exact I.base.free b u e n hx
  · have e' := I.base.tups b xs e
    rw [upd_ne (ne b _ e')]; exact e'
  · have e' := I.base.frzs b u xs e
    rw [upd_ne (ne b _ e')]; exact e'
  · obtain ⟨more, e'⟩ := I.base.tbls b ps e
    exact ⟨more, by rw [upd_ne (ne b _ e')]; exact e'⟩
  · rw [upd_ne (Ne.symm hL)]; exact I.free
  · rw [upd_ne (hc x c e)]; exact I.freeC x c e
  · obtain ⟨a1, a2, a3, a4, a5⟩ := I.pin p q
    exact ⟨a1, by rw [upd_ne (hp p q)]; exact a2, a3, a4, a5⟩
  · by_cases hb : b = D
    · subst hb; rw [upd_same] at e; cases e; exact new
    · rw [upd_ne hb] at e
      exact (I.hok b u e).stay (fun c v _ q => q) (fun c q => by rw [upd_ne (ne c _ q)]; exact q) fun c xs q => by rw [upd_ne (ne c _ q)]; exact q

theorem Air.track {pins : List (Addr × Obj)} {σ : St} {H' : Hp} {ea C : Addr} {s'' : Shared} (a : Air X pins σ H' ea C s'') (hex : X.ex = []) : Inv X pins σ (upd H' ea (ErrO ea C)) s'' := by
  have J := a.inv
  have ob := a.obj
  obtain ⟨H, s, s', B, t, I, os, un, hok, KB, fl, sm, os'', bare, n1, n2⟩ := a.ex
  refine J.track' n2 ?_ (fun z => ?_) (fun x c e z => ?_) (fun p hp z => ?_) (errO_ok ob)
  · cases q : X.s₀.heap.get? ea with
    | none => rfl
    | some o =>
      obtain ⟨o', e⟩ := I.base.there ea o q (by rw [hex]; simp)
      rw [n1] at e; cases e
  · obtain ⟨m, ⟨o, _, _, ho, _⟩, _⟩ := I.loc
    rw [← z, n1] at ho; cases ho
  · obtain ⟨v, o, ho, _⟩ := I.cell x c e
    rw [z, n1] at ho; cases ho
  · have e := (I.pin p hp).1
    rw [z, n1] at e; cases e

/-- handlers: th says, for the class of what came, what is wanted -/
def PH (X : Cx) (hs : List ExceptHandler) (th : Addr → TS) : Prop :=
  ∀ (pins : List (Addr × Obj)) (σ : St) (H : Hp) (ea C : Addr) (s : Shared) (D : Ends), Air X pins σ H ea C s → th C D σ H → wpAny (model X.prog X.w) X.A (handleBy (.ref ea) X.env hs) (SP X pins D) X.xe s
/-- C stands not under C' -/
def excMiss (K : PySem.W.Frag) (C C' : Addr) : Bool := match K.lookup C with
  | some ⟨.type "type", _, .cls cd, _⟩ => !(cd.mro.contains (.ref C'))
  | _ => false
def thCons (K : PySem.W.Frag) (C' : Addr) (i : Nat) (ts : TS) (th : Addr → TS) : Addr → TS := fun C D σ H =>
  (C = C' ∧ ∀ ea, H ea = none → ts { nx := fun _ _ => False, rt := D.rt } (σ.set i (some (.ref ea))) (upd H ea (ErrO ea C))) ∨ (C ≠ C' ∧ ErrCls K C ∧ excMiss K C C' = true ∧ th C D σ H)
theorem ph_nil : PH X [] (fun _ _ _ _ => False) := fun _ _ _ _ _ _ _ _ h => h.elim
theorem ph_cons {x n : Str} {np hpos : Pos} {b₀ : Stmt} {suite : List Stmt} {rest : List ExceptHandler} {C' : Addr} {i : Nat} {ts : TS} {th : Addr → TS} (hex : X.ex = []) (hN : X.N.Nodup) (hi : X.N[i]? = some n) (hn : X.env.scope.names.lookup n = some .local)
    (hg : Gl X x) (hm : X.mg x = some (.ref C')) (c' : ErrCls X.K C') (hs : ∀ ea, PSs (cxHand X ea) (b₀ :: suite) ts) (hr : PH X rest th) (hd : (x == ("__debug__" : Str)) = false := by decide) :
    PH X (.ExceptHandler (some (.Name x np)) (some n) (b₀ :: suite) hpos :: rest) (thCons X.K C' i ts th) := by
  intro pins σ H ea C s D a h
  have I := a.inv
  refine wpAny_handleBy_cons (codeAny_handlers_test ?_) (by intro q; cases q)
  refine ld_glob (X := cxHand X ea) (I.hand ea) hg hm ?_ hd
  obtain ⟨ob, hob, hcls⟩ := a.obj
  rcases h with ⟨rfl, h⟩ | ⟨hne, c, hmiss, h⟩
  · obtain ⟨tl, Na, nm, q, bs, hdct, sn, sub, ab, col, dd, k0, k1, k2, k3, k5, mN, hC, hN', hni, T⟩ := c'.obj I.kIn
    obtain ⟨hp, g, d, tk, os⟩ := s
    refine wpAny_excMatches_sub_self hC hob hcls (T.hasType PySem.F.excBase_ValueError.hasBase) ?_
    show codeAny _ _ _ _ _
    refine codeAny_handlers_suite_as (a.again fun h' a' => ?_)
    have J := (a'.track hex).hand ea
    refine store_ok (i := i) (v := .ref ea) (X := cxHand X ea) J hN hi (.inl hn) rfl (fun s2 J2 => ?_) (.inr hn)
    refine wpAny_mono (hs ea pins s2 _ _ { nx := fun _ _ => False, rt := D.rt } J2 (h ea a'.free)) (fun f s3 q3 => ?_) fun _ _ z => False.elim z
    cases f with
    | next => obtain ⟨_, _, _, z⟩ := q3; exact False.elim z
    | brk => obtain ⟨_, _, _, z⟩ := q3; exact False.elim z
    | cont => obtain ⟨_, _, _, z⟩ := q3; exact False.elim z
    | ret u =>
      obtain ⟨v, σ', H'', J3, rv, q⟩ := q3
      obtain ⟨m, hnm, _⟩ := J3.loc
      have K3 := J3.unhand I.ok
      show wpAny _ _ _ _ _ _
      refine wpAny_nameGoes hn hnm (by rw [I.ok.kind]; rfl) fun h4 m4 hn4 hs4 => ?_
      exact ⟨v, _, H'', K3.namesGone hn4 hs4, rv, q⟩
  · obtain ⟨tl, Na, nm, q, bs, hdct, sn, sub, ab, col, dd, k0, k1, k2, k3, k5, mN, hC, hN', hni, T⟩ := c.obj I.kIn
    obtain ⟨tl', Na', nm', q', bs', hdct', sn', sub', ab', col', dd', k0', k1', k2', k3', k5', mN', hC', hN2, hni', T'⟩ := c'.obj I.kIn
    obtain ⟨hp, g, d, tk, os⟩ := s
    have miss : (Value.ref C :: tl).contains (.ref C') = false := by
      unfold excMiss at hmiss
      split at hmiss
      · rename_i dd2 cd2 sl2 ho
        have e := I.kIn _ _ ho
        have e2 : hp.get? C = some ⟨.type "type", dd2, .cls cd2, sl2⟩ := e
        rw [hC] at e2
        unfold excClassObj at e2
        cases e2
        simpa using hmiss
      · cases hmiss
    have hcB : (Value.ref C' :: tl').contains (.type "BaseException") = true := by rw [List.contains_cons, T'.hasType PySem.F.excBase_ValueError.hasBase, Bool.or_true]
    have f := tc_notTuple
    have key : ∀ Q : Bool → Shared → Prop, Q false ⟨hp, g, d, tk, os⟩ → wpAny (model X.prog X.w) (cxHand X ea).A (excMatches (.ref ea) (.ref C')) Q (notedBy (model X.prog X.w) (X.A.mark (some (.ref ea))) X.env (cameBackBy (model X.prog X.w) X.A X.env X.xe)) ⟨hp, g, d, tk, os⟩ := fun Q hq => by
      unfold excMatches
      repeat (first | (with_reducible refine wpAny_loadPart_at hob ?_; rw [hcls]) | with_reducible refine wpAny_loadPart_at hC' ?_ | (with_reducible refine wpAny_isSubtype_exc hC' ?_; rw [hcB]) | (with_reducible refine wpAny_isSubtype_exc hC ?_; rw [miss]) | wp_step)
      exact hq
    refine key _ ?_
    exact hr pins σ H ea C _ D a h

def tTry (tb : TSX) (th : Addr → TS) : TS := fun D σ H => tb D (fun σ' c H' => ∃ C, c = .ref C ∧ th C D σ' H') σ H
theorem ps_try {body : List Stmt} {h₀ : ExceptHandler} {hs : List ExceptHandler} {pos : Pos} {tb : TSX} {th : Addr → TS} (hst : X.stack = X.env :: X.outer) (hfr : X.env.frame = some X.env.locals) (hb : PSX X body tb) (hh : PH X (h₀ :: hs) th) :
    PS X (.Try body (h₀ :: hs) [] [] pos) (tTry tb th) := by
  intro pins s σ H D I h
  refine wpAny_Try_except (wpAny_mono (hb pins s σ H D _ I h) (fun f s1 q => ?_) fun ev s1 q => ?_)
  · cases f with
    | next => exact wpAny_execs_nil q
    | ret v => exact q
    | brk => exact q
    | cont => exact q
  · obtain ⟨σ', H1, s2, I2, ea, C, H', rfl, os, bare, un, hok, fly, C', e, th'⟩ := q
    cases e
    obtain ⟨B, t, fl, KB⟩ := fly.fl
    have fl0 := fl
    rw [hst] at fl0
    refine wpAny_looks_onW (by rw [← hst]; exact I2.ok.frames) hfr fl0 fun h4 held sm4 => ?_
    refine wpAny_landsW held fun h5 fl5 sm5 => ?_
    rw [← hst] at fl5
    exact hh pins σ' H' ea C _ D ⟨H1, s2, s1, B, t, I2, os, un, hok, KB, fl5, sm4.trans sm5, rfl, bare, fly.new, fly.free⟩ th'
end
end L2

set_option Elab.async false
set_option linter.all false
set_option maxRecDepth 100000
namespace L2
open PySem PySem.Spec PyProof.Rows

/-! ## Texts: their signs, slices, products; all; join; == of lists and tuples -/

/-- the signs of a text -/
def Its (z : Str) : It := ⟨fun i _ => i < z.cps.size, fun i H x H' => H' = H ∧ ∃ c, z.cps[i]? = some c ∧ x = .str ⟨#[c]⟩, fun i _ => z.cps.size ≤ i⟩
theorem turn_strA {P : Program} {w : World} {K : PySem.W.Frag} {tg : Expr} (z : Str) (t : Tok) (it : Addr) : Turn P w K tg (Its z) [it] it (fun i h => h.IsStrIter it "str_ascii_iterator" z t i) where
  mem := by simp
  obj := fun i h st b hb => by
    have e : b = it := by simpa using hb
    subst e
    obtain ⟨o, e, c, d⟩ := st
    exact ⟨o, e, fun v q => by rw [d] at q; cases q⟩
  keep := fun i h h' st k => by
    obtain ⟨o, e, c, d⟩ := st
    exact ⟨o, k it (by simp) o e, c, d⟩
  item := by
    intro X hP hw hK hc i pins s σ H E I hf st hg
    subst hP hw hK
    obtain ⟨f0, f1, f2, f3, f4, f5⟩ := hf it (by simp)
    have hgi : i < z.cps.size := hg
    refine wpAny_pyNext_ascii_item st (c := z.cps[i]) (by simp [hgi]) fun h' st' sb => ?_
    have I1 : Inv X pins σ H { s with heap := h', toks := s.toks + 1 } := I.turned (fun b o hb e => (sb.2 b hb).trans e) f0 f1 f3 f4 f5
    obtain ⟨o, e, c, d⟩ := id st'
    exact ⟨_, rfl, go_of (s := { s with heap := h', toks := s.toks + 1 }) e c d (by decide) ⟨.str ⟨#[z.cps[i]]⟩, H, I1, ⟨_, rfl⟩, ⟨rfl, z.cps[i], by simp [hgi], rfl⟩, st', fun b hb => (hf b hb).1⟩⟩
  done := by
    intro X hP hw hK hc i pins s σ H E I hf st hg
    subst hP hw hK
    obtain ⟨f0, f1, f2, f3, f4, f5⟩ := hf it (by simp)
    have hgi : z.cps.size ≤ i := hg
    exact wpAny_pyNext_ascii_end (I.ok.hd hc) st (by simp [hgi]) fun h' eb => ⟨rfl, I.turned (t' := s.toks) (fun b o hb e => eb b o hb e) f0 f1 f3 f4 f5⟩
  self := fun _ _ _ _ _ st h => wpAny_pyIter_striter_ascii st h
theorem turn_strW {P : Program} {w : World} {K : PySem.W.Frag} {tg : Expr} (z : Str) (t : Tok) (it : Addr) : Turn P w K tg (Its z) [it] it (fun i h => h.IsStrIter it "str_iterator" z t i) where
  mem := by simp
  obj := fun i h st b hb => by
    have e : b = it := by simpa using hb
    subst e
    obtain ⟨o, e, c, d⟩ := st
    exact ⟨o, e, fun v q => by rw [d] at q; cases q⟩
  keep := fun i h h' st k => by
    obtain ⟨o, e, c, d⟩ := st
    exact ⟨o, k it (by simp) o e, c, d⟩
  item := by
    intro X hP hw hK hc i pins s σ H E I hf st hg
    subst hP hw hK
    obtain ⟨f0, f1, f2, f3, f4, f5⟩ := hf it (by simp)
    have hgi : i < z.cps.size := hg
    refine wpAny_pyNext_wide_item st (c := z.cps[i]) (by simp [hgi]) fun h' st' sb => ?_
    have I1 : Inv X pins σ H { s with heap := h', toks := s.toks + 1 } := I.turned (fun b o hb e => (sb.2 b hb).trans e) f0 f1 f3 f4 f5
    obtain ⟨o, e, c, d⟩ := id st'
    exact ⟨_, rfl, go_of (s := { s with heap := h', toks := s.toks + 1 }) e c d (by decide) ⟨.str ⟨#[z.cps[i]]⟩, H, I1, ⟨_, rfl⟩, ⟨rfl, z.cps[i], by simp [hgi], rfl⟩, st', fun b hb => (hf b hb).1⟩⟩
  done := by
    intro X hP hw hK hc i pins s σ H E I hf st hg
    subst hP hw hK
    obtain ⟨f0, f1, f2, f3, f4, f5⟩ := hf it (by simp)
    have hgi : z.cps.size ≤ i := hg
    exact wpAny_pyNext_wide_end (I.ok.hd hc) st (by simp [hgi]) fun h' eb => ⟨rfl, I.turned (t' := s.toks) (fun b o hb e => eb b o hb e) f0 f1 f3 f4 f5⟩
  self := fun _ _ _ _ _ st h => wpAny_pyIter_striter_wide st h
section
variable {X : Cx} {tg : Expr}
def iStr (te : TE) : TI := fun σ H R => te σ H fun x H1 => ∃ z, x = .str z ∧ R (Its z) H1
theorem pi_str {l : Expr} {te : TE} (hl : PE X l te) : PI X tg l (iStr te) := by
  intro pins s σ H R I h
  refine thn (hl pins s σ H _ I h) fun v s1 ⟨x, H1, I1, r1, q1⟩ => ?_
  obtain ⟨z, e, q⟩ := q1
  subst e
  obtain ⟨t, rfl⟩ := r1
  have fp : ∀ b ∈ [s1.heap.objs.size], FpOk X pins H1 b := fun b hb => by
    have e : b = s1.heap.objs.size := by simpa using hb
    subst e
    exact I1.fpOk (Nat.le_refl _) (I1.hok.fresh (Nat.le_refl _))
  cases ha : z.cps.all (· < 128)
  · exact wpAny_pyIter_wide ha ⟨s1.heap.objs.size, [s1.heap.objs.size], _, _, H1, rfl, I1.kept (t' := s1.toks) fun b o e => Heap.get?_push_of_some _ e, turn_strW z t _, ⟨_, Heap.get?_push_size _ rfl, rfl, rfl⟩, fp, q⟩
  · exact wpAny_pyIter_ascii ha ⟨s1.heap.objs.size, [s1.heap.objs.size], _, _, H1, rfl, I1.kept (t' := s1.toks) fun b o e => Heap.get?_push_of_some _ e, turn_strA z t _, ⟨_, Heap.get?_push_size _ rfl, rfl, rfl⟩, fp, q⟩

/-- t[lo:hi] -/
def rSlS : V → Option Int → Option Int → Hp → VK → Prop := fun x lo hi H Q => ∃ z, x = .str z ∧ z.length ≤ sizeLine ∧ Q (.str (Txt.slice z lo hi)) H
theorem isPart_opt {u : Value} {o : Option Int} (p : IsPart u o) : ∃ l : Option (Int × Tok), u = partValue l ∧ o = l.map (·.1) := by
  cases p with
  | none => exact ⟨none, rfl, rfl⟩
  | int i t => exact ⟨some (i, t), rfl, rfl⟩
theorem sl_str : SlR X rSlS := by
  intro pins s σ H x v vl vu lo hi sl Q I rx hs pl pu h
  obtain ⟨z, rfl, hz, q⟩ := h
  obtain ⟨t, rfl⟩ := rx
  obtain ⟨l, rfl, rfl⟩ := isPart_opt pl
  obtain ⟨u, rfl, rfl⟩ := isPart_opt pu
  refine ⟨"str", _, F.slot_str_getitem.lookup, typeIs_str _ _ _, wpAny_getItem_str_slice (l := l) (u := u) (st := none) hs rfl ?_⟩
  exact post_val_or_str ⟨Nat.le_trans (Txt.slice_le z _ _) hz, fun t' k => ⟨.str _, H, I.tok _, ⟨_, rfl⟩, q⟩⟩

/-- t * n -/
def repS (z : Str) (n : Int) : Str := if n < 1 then Str.empty else if (n == 1 || z.length == 0) = true then z else ⟨(List.replicate n.toNat z.cps).foldl (· ++ ·) #[]⟩
theorem op_mul_str : OpR X (binaryOp .Mult) (fun x y H Q => ∃ z n, x = .str z ∧ y = .int n ∧ z.length ≤ 1000 ∧ -1000 ≤ n ∧ n ≤ 1000 ∧ Q (.str (repS z n)) H) := by
  intro pins s σ H x y v u Q I rx ry h
  obtain ⟨z, n, rfl, rfl, hz, h1, h2, q⟩ := h
  obtain ⟨t, rfl⟩ := rx
  obtain ⟨t', rfl⟩ := ry
  refine P.mul_str (by rw [decide_eq_false (by omega), decide_eq_false (by omega)]; rfl) (fun hn _ => ?_) (fun hn _ => ?_) ?_
  · have : (1000 : Int) ≤ (2 ^ 63 - 1) / n := by
      rw [Int.le_ediv_iff_mul_le (by omega)]; omega
    omega
  · have : z.length * n.toNat ≤ 1000 * 1000 := Nat.mul_le_mul hz (by omega)
    show decide (z.length * n.toNat > sizeLine) = false
    rw [sizeLine_eq]
    exact decide_eq_false (by omega)
  · unfold repS at q
    by_cases h3 : n < 1
    · rw [if_pos h3] at q ⊢
      exact ⟨by decide, ⟨.str _, H, I.tok _, ⟨_, rfl⟩, q⟩⟩
    · rw [if_neg h3] at q ⊢
      by_cases h4 : (n == 1 || z.length == 0) = true
      · rw [if_pos h4] at q ⊢
        exact ⟨.str _, H, I, ⟨_, rfl⟩, q⟩
      · rw [if_neg h4] at q ⊢
        refine ⟨?_, ⟨.str _, H, I.tok _, ⟨_, rfl⟩, q⟩⟩
        have e : ∀ (k : Nat) (acc : Array Nat), ((List.replicate k z.cps).foldl (· ++ ·) acc).size = acc.size + k * z.cps.size := by
          intro k
          induction k with
          | zero => intro acc; simp
          | succ k ih =>
            intro acc
            rw [List.replicate_succ, List.foldl_cons, ih, Array.size_append, Nat.add_mul, Nat.one_mul]
            omega
        have e2 := e n.toNat #[]
        have hz' : z.cps.size ≤ 1000 := hz
        have : n.toNat * z.cps.size ≤ 1000 * 1000 := Nat.mul_le_mul (by omega) hz'
        show ((List.replicate n.toNat z.cps).foldl (· ++ ·) #[]).size ≤ sizeLine
        rw [e2, sizeLine_eq]
        simp only [List.size_toArray, List.length_nil]
        omega

/-- all(xs), xs a list of bools -/
theorem call_all (hc : X.calm = true) : CallR X (.builtin "all") (fun xs H Q => ∃ (p : Addr) (bs : List Bool), xs = [.ref p] ∧ SqL X.K H p (bs.map V.bl) ∧ Q (.bl (bs.all id)) H) := by
  intro pins s σ H xs us Q I r h
  obtain ⟨p, bs, rfl, hq, q⟩ := h
  obtain ⟨u, rfl, ru⟩ := vals1 r
  cases ru
  obtain ⟨its, rv, pl, hz⟩ := I.list hq
  have hl : its.length = bs.length := by have := rv.length; simpa using this.symm
  have item : ∀ (i : Nat) (v : Value), its[i]? = some v → v = .bool (bs.getD i true) := fun i v e => by
    have hi : i < bs.length := by rw [← hl]; exact (List.getElem?_eq_some_iff.mp e).1
    have hx : (bs.map V.bl)[i]? = some (V.bl bs[i]) := by simp [hi]
    obtain ⟨w', e', rw'⟩ := rv.get hx
    rw [e] at e'; cases e'
    have : bs.getD i true = bs[i] := by simp [List.getD_eq_getElem?_getD, hi]
    rw [this]
    exact rw'
  have hne : p ≠ s.heap.objs.size := fun z => by
    obtain ⟨o, n, e, _⟩ := pl
    exact Nat.lt_irrefl _ (z ▸ Heap.lt_size e)
  refine call_all_walk (wpAny_pyIter_list pl.isList ?_)
  refine ⟨s.heap.objs.size, [s.heap.objs.size, p], [s.heap.objs.size], its.toArray.size, fun i v => its.toArray[i]? = some v, fun i h => h.IsListIter s.heap.objs.size p i ∧ h.IsList p its.toArray, fun i => bs.getD i true, rfl,
    Walks.list (A := X.A.in1) (I.ok.hd hc) _ p hne its.toArray, ⟨⟨_, Heap.get?_push_size _ rfl, rfl, rfl⟩, pl.isList.at fun o e => Heap.get?_push_of_some _ e⟩, fun i v s' Q' E' hP hQ => ?_, fun h' tk kk => ?_⟩
  · have := item i v (by simpa using hP)
    subst this
    exact wpAny_truthy_bool hQ
  · have hb : (List.range its.toArray.size).all (fun i => bs.getD i true) = bs.all id := by
      rw [List.size_toArray, hl]
      apply Bool.eq_iff_iff.mpr
      simp only [List.all_eq_true, List.mem_range, id]
      constructor
      · intro h x hx
        obtain ⟨i, hi, rfl⟩ := List.getElem_of_mem hx
        have := h i hi
        simpa [List.getD_eq_getElem?_getD, hi] using this
      · intro h i hi
        have := h bs[i] (List.getElem_mem hi)
        simpa [List.getD_eq_getElem?_getD, hi] using this
    rw [hb]
    have I1 : Inv X pins σ H { s with heap := h', toks := tk } := I.kept fun b o e => kk b o (fun z => by
      have z' : b = s.heap.objs.size := by simpa using z
      exact Nat.lt_irrefl _ (z' ▸ Heap.lt_size e)) (Heap.get?_push_of_some _ e)
    exact ⟨.bl _, H, I1, rfl, q⟩

/-- a list of texts -/
theorem strsAre_of {ys : List Str} : ∀ {us : List Value}, Vals (ys.map V.str) us → StrsAre us ys := by
  induction ys with
  | nil => intro us r; rw [List.map_nil] at r; cases r; exact .nil
  | cons n ns ih =>
    intro us r
    rw [List.map_cons] at r
    cases r with
    | cons r1 r2 =>
      obtain ⟨t, e⟩ := r1
      subst e
      exact .cons n t (ih r2)
def rJoin (K : PySem.W.Frag) : V → List V → Hp → VK → Prop := fun x vs H Q => ∃ (sep : Str) (p : Addr) (ys : List Str), x = .str sep ∧ vs = [.ref p] ∧ SqL K H p (ys.map V.str) ∧ (ys.map (·.length)).sum + ys.length * sep.length ≤ 16777216 ∧ Q (.str (Txt.join sep ys)) H
theorem mt_join : MtR X "str.join" (rJoin X.K) := by
  intro pins s σ H x xs v us Q I rx rs h
  obtain ⟨sep, p, ys, rfl, rfl, hq, hz, q⟩ := h
  obtain ⟨t, rfl⟩ := rx
  obtain ⟨u, rfl, ru⟩ := vals1 rs
  cases ru
  obtain ⟨its, rv, pl, _⟩ := I.list hq
  exact join_list pl.isList (by simpa using strsAre_of rv) hz fun t' k => ⟨.str _, H, I.tok _, ⟨_, rfl⟩, q⟩
end
end L2
namespace L2
open PySem PySem.Spec PyProof.Rows PySem.SeqAt

/-! ## Data, as deep as they go, and their == -/
inductive Dt where
  | non | bl (b : Bool) | int (i : Int) | str (x : Str) | tup (ds : List Dt) | lst (ds : List Dt)

mutual
inductive Den (K : PySem.W.Frag) (H : Hp) : V → Dt → Prop
  | non : Den K H .non .non
  | bl (b : Bool) : Den K H (.bl b) (.bl b)
  | int (i : Int) : Den K H (.int i) (.int i)
  | str (x : Str) : Den K H (.str x) (.str x)
  | tup {a : Addr} {xs : List V} {ds : List Dt} (h : H a = some (.tup xs)) (hs : Dens K H xs ds) : Den K H (.ref a) (.tup ds)
  | lst {a : Addr} {xs : List V} {ds : List Dt} (h : SqL K H a xs) (hs : Dens K H xs ds) : Den K H (.ref a) (.lst ds)
inductive Dens (K : PySem.W.Frag) (H : Hp) : List V → List Dt → Prop
  | nil : Dens K H [] []
  | cons {x : V} {d : Dt} {xs : List V} {ds : List Dt} (h : Den K H x d) (t : Dens K H xs ds) : Dens K H (x :: xs) (d :: ds)
end

def flatD : Dt → Option V
  | .non => some .non
  | .bl b => some (.bl b)
  | .int i => some (.int i)
  | .str x => some (.str x)
  | _ => none
mutual
def eqD : Dt → Dt → Bool
  | .tup a, .tup b => eqDs a b
  | .lst a, .lst b => eqDs a b
  | .non, e => match flatD e with | some y => eqV .non y | none => false
  | .bl x, e => match flatD e with | some y => eqV (.bl x) y | none => false
  | .int x, e => match flatD e with | some y => eqV (.int x) y | none => false
  | .str x, e => match flatD e with | some y => eqV (.str x) y | none => false
  | .tup _, _ => false
  | .lst _, _ => false
def eqDs : List Dt → List Dt → Bool
  | [], [] => true
  | a :: as, b :: bs => eqD a b && eqDs as bs
  | [], _ :: _ => false
  | _ :: _, [] => false
end
/-! the two may be compared here -/
mutual
def shD : Dt → Dt → Bool
  | .tup a, .tup b => shDs a b
  | .lst a, .lst b => shDs a b
  | .non, e => (flatD e).isSome
  | .bl _, e => (flatD e).isSome
  | .int _, e => (flatD e).isSome
  | .str _, e => (flatD e).isSome
  | .tup _, _ => false
  | .lst _, _ => false
def shDs : List Dt → List Dt → Bool
  | a :: as, b :: bs => shD a b && shDs as bs
  | _, _ => true
end
mutual
def depD : Dt → Nat
  | .tup a => depDs a + 1
  | .lst a => depDs a + 1
  | _ => 0
def depDs : List Dt → Nat
  | [] => 0
  | a :: as => max (depD a) (depDs as)
end

theorem Dens.length {K : PySem.W.Frag} {H : Hp} : ∀ {xs : List V} {ds : List Dt}, Dens K H xs ds → xs.length = ds.length
  | _, _, .nil => rfl
  | _, _, .cons _ t => by rw [List.length_cons, List.length_cons, t.length]
theorem Dens.get {K : PySem.W.Frag} {H : Hp} : ∀ {xs : List V} {ds : List Dt} {i : Nat} {x : V}, Dens K H xs ds → xs[i]? = some x → ∃ d, ds[i]? = some d ∧ Den K H x d
  | _, _, _, _, .nil, e => by simp at e
  | _, _, 0, _, .cons h _, e => by simp at e; subst e; exact ⟨_, rfl, h⟩
  | _, _, i + 1, x, .cons _ t, e => by
    obtain ⟨d, h1, h2⟩ := Dens.get (i := i) (x := x) t (by simpa using e)
    exact ⟨d, by simpa using h1, h2⟩
theorem Dens.get' {K : PySem.W.Frag} {H : Hp} : ∀ {xs : List V} {ds : List Dt} {i : Nat} {d : Dt}, Dens K H xs ds → ds[i]? = some d → ∃ x, xs[i]? = some x ∧ Den K H x d
  | _, _, _, _, .nil, e => by simp at e
  | _, _, 0, _, .cons h _, e => by simp at e; subst e; exact ⟨_, rfl, h⟩
  | _, _, i + 1, d, .cons _ t, e => by
    obtain ⟨x, h1, h2⟩ := Dens.get' (i := i) (d := d) t (by simpa using e)
    exact ⟨x, by simpa using h1, h2⟩
theorem Dens.append {K : PySem.W.Frag} {H : Hp} : ∀ {xs ys : List V} {ds es : List Dt}, Dens K H xs ds → Dens K H ys es → Dens K H (xs ++ ys) (ds ++ es)
  | _, _, _, _, .nil, s => s
  | _, _, _, _, .cons h t, s => .cons h (t.append s)
theorem depDs_mem : ∀ {ds : List Dt} {d : Dt}, d ∈ ds → depD d ≤ depDs ds
  | a :: as, d, h => by
    unfold depDs
    rcases List.mem_cons.mp h with e | e
    · rw [e]; exact Nat.le_max_left _ _
    · exact Nat.le_trans (depDs_mem e) (Nat.le_max_right _ _)
theorem shDs_get : ∀ {as bs : List Dt} {i : Nat} {a b : Dt}, shDs as bs = true → as[i]? = some a → bs[i]? = some b → shD a b = true
  | x :: as, y :: bs, 0, a, b, h, e1, e2 => by
    simp at e1 e2; subst e1; subst e2
    unfold shDs at h; simp only [Bool.and_eq_true] at h; exact h.1
  | x :: as, y :: bs, i + 1, a, b, h, e1, e2 => by
    unfold shDs at h; simp only [Bool.and_eq_true] at h
    exact shDs_get (i := i) h.2 (by simpa using e1) (by simpa using e2)
  | [], _, _, _, _, _, e1, _ => by simp at e1
  | _ :: _, [], _, _, _, _, _, e2 => by simp at e2
/-- an index by which == of two lists goes -/
def atD (as bs : List Dt) (j : Nat) : Bool := eqD (as.getD j .non) (bs.getD j .non)
theorem range_succ_all (n : Nat) (p : Nat → Bool) : (List.range (n + 1)).all p = (p 0 && (List.range n).all fun j => p (j + 1)) := by
  rw [List.range_succ_eq_map, List.all_cons, List.all_map]
  rfl
theorem eqDs_all : ∀ {as bs : List Dt}, as.length = bs.length → (List.range as.length).all (atD as bs) = eqDs as bs
  | [], [], _ => rfl
  | a :: as, b :: bs, h => by
    have ih := @eqDs_all as bs (by simpa using h)
    rw [List.length_cons, range_succ_all]
    unfold eqDs
    rw [← ih]
    rfl
  | [], _ :: _, h => by simp at h
  | _ :: _, [], h => by simp at h
theorem eqDs_len : ∀ {as bs : List Dt}, as.length ≠ bs.length → eqDs as bs = false
  | [], [], h => absurd rfl h
  | a :: as, b :: bs, h => by
    unfold eqDs
    rw [eqDs_len (as := as) (bs := bs) (fun z => h (by rw [List.length_cons, List.length_cons, z])), Bool.and_false]
  | [], _ :: _, _ => rfl
  | _ :: _, [], _ => rfl
theorem eqDs_min : ∀ {as bs : List Dt}, ((List.range (min as.length bs.length)).all (atD as bs) && as.length == bs.length) = eqDs as bs := by
  intro as bs
  by_cases h : as.length = bs.length
  · rw [← h, Nat.min_self, eqDs_all h]; simp
  · rw [eqDs_len h]; simp [h]
theorem eqV_refl : ∀ {x : V}, flatV x = true → eqV x x = true
  | .non, _ => rfl
  | .bl b, _ => by simp [eqV]
  | .int i, _ => by simp [eqV]
  | .str x, _ => by simp [eqV]
mutual
theorem eqD_refl : ∀ d : Dt, eqD d d = true
  | .non => rfl
  | .bl b => by show eqV (.bl b) (.bl b) = true; exact eqV_refl rfl
  | .int i => by show eqV (.int i) (.int i) = true; exact eqV_refl rfl
  | .str x => by show eqV (.str x) (.str x) = true; exact eqV_refl rfl
  | .tup ds => by unfold eqD; exact eqDs_refl ds
  | .lst ds => by unfold eqD; exact eqDs_refl ds
theorem eqDs_refl : ∀ ds : List Dt, eqDs ds ds = true
  | [] => rfl
  | a :: as => by unfold eqDs; rw [eqD_refl a, eqDs_refl as]; rfl
end
mutual
theorem shD_refl : ∀ d : Dt, shD d d = true
  | .non => rfl
  | .bl _ => rfl
  | .int _ => rfl
  | .str _ => rfl
  | .tup ds => by unfold shD; exact shDs_refl ds
  | .lst ds => by unfold shD; exact shDs_refl ds
theorem shDs_refl : ∀ ds : List Dt, shDs ds ds = true
  | [] => rfl
  | a :: as => by unfold shDs; rw [shD_refl a, shDs_refl as]; rfl
end

theorem no_both {X : Cx} {pins : List (Addr × Obj)} {σ : St} {H : Hp} {s : Shared} {a : Addr} {xs ys : List V} (I : Inv X pins σ H s) (h : SqT X.K H a xs) (h' : SqL X.K H a ys) : False := by
  obtain ⟨_, _, ⟨o, e, c, _⟩, _⟩ := I.tuple h
  obtain ⟨_, _, ⟨o', _, e', c', _⟩, _⟩ := I.list h'
  rw [e] at e'; cases e'
  rw [c] at c'; exact absurd c' (by decide)
mutual
/-- what a value denotes is one thing -/
theorem Den.inj {X : Cx} {pins : List (Addr × Obj)} {σ : St} {H : Hp} {s : Shared} (I : Inv X pins σ H s) : ∀ {d : Dt} {e : Dt} {x : V}, Den X.K H x d → Den X.K H x e → d = e
  | .tup ds, _, _, .tup h hs, he => by
    cases he with
    | tup h' hs' =>
      have e := I.tuple_inj (SqT.of h) (SqT.of h')
      subst e
      rw [Dens.inj I hs hs']
    | lst h' hs' => exact (no_both I (SqT.of h) h').elim
  | .lst ds, _, _, .lst h hs, he => by
    cases he with
    | lst h' hs' =>
      have e := I.list_inj h h'
      subst e
      rw [Dens.inj I hs hs']
    | tup h' hs' => exact (no_both I (SqT.of h') h).elim
  | .non, _, _, .non, he => by cases he; rfl
  | .bl _, _, _, .bl _, he => by cases he; rfl
  | .int _, _, _, .int _, he => by cases he; rfl
  | .str _, _, _, .str _, he => by cases he; rfl
theorem Dens.inj {X : Cx} {pins : List (Addr × Obj)} {σ : St} {H : Hp} {s : Shared} (I : Inv X pins σ H s) : ∀ {ds es : List Dt} {xs : List V}, Dens X.K H xs ds → Dens X.K H xs es → ds = es
  | [], _, _, .nil, he => by cases he; rfl
  | d :: ds, _, _, .cons h t, he => by
    cases he with
    | cons h' t' => rw [Den.inj I h h', Dens.inj I t t']
end
theorem Dens.getD {K : PySem.W.Frag} {H : Hp} {xs : List V} {ds : List Dt} {us : List Value} {j : Nat} (D : Dens K H xs ds) (r : Vals xs us) (h : j < us.length) : ∃ x, RelV x us[j] ∧ Den K H x (ds.getD j .non) ∧ ds[j]? = some (ds.getD j .non) := by
  have hl := r.length
  have hx : xs[j]? = some xs[j] := by simp [hl, h]
  obtain ⟨u, hu, ru⟩ := r.get hx
  obtain ⟨d, hd, dd⟩ := D.get hx
  have eu : us[j] = u := by
    rw [List.getElem?_eq_getElem h] at hu
    exact Option.some.inj hu
  have ed : ds.getD j .non = d := by rw [List.getD_eq_getElem?_getD, hd]; rfl
  rw [eu, ed]
  exact ⟨_, ru, dd, hd⟩
/-- flat things -/
theorem Den.flat {K : PySem.W.Frag} {H : Hp} {x : V} {d : Dt} {y : V} (h : Den K H x d) (e : flatD d = some y) : x = y ∧ flatV x = true := by
  cases h with
  | non => cases e; exact ⟨rfl, rfl⟩
  | bl b => cases e; exact ⟨rfl, rfl⟩
  | int i => cases e; exact ⟨rfl, rfl⟩
  | str z => cases e; exact ⟨rfl, rfl⟩
  | tup _ _ => cases e
  | lst _ _ => cases e
theorem eqD_flat {d e : Dt} {x y : V} (h1 : flatD d = some x) (h2 : flatD e = some y) : eqD d e = eqV x y := by
  cases d <;> first
    | (cases h1; simp only [eqD, h2])
    | cases h1
theorem shD_flat {d e : Dt} {x : V} (h1 : flatD d = some x) (h : shD d e = true) : ∃ y, flatD e = some y := by
  cases d <;> first
    | (cases h1; unfold shD at h; exact Option.isSome_iff_exists.mp h)
    | cases h1
/-- == of two data -/
theorem eqAt_den {X : Cx} {pins : List (Addr × Obj)} {σ : St} {H : Hp} {s : Shared} (I : Inv X pins σ H s) : ∀ (n : Nat) {d e : Dt} {x y : V} {u v : Value} {A : Around}, depD d ≤ n → A.units + n < cLine → Den X.K H x d → Den X.K H y e → RelV x u → RelV y v → shD d e = true → EqAt A s u v (eqD d e) := by
  intro n
  induction n with
  | zero =>
    intro d e x y u v A hn hu hx hy rx ry sh
    cases fd : flatD d with
    | some x' =>
      obtain ⟨y', fe⟩ := shD_flat fd sh
      obtain ⟨rfl, f1⟩ := hx.flat fd
      obtain ⟨rfl, f2⟩ := hy.flat fe
      rw [eqD_flat fd fe]
      exact eqAt_V rx ry f1 f2
    | none =>
      cases d with
      | tup ds => unfold depD at hn; exact absurd hn (by omega)
      | lst ds => unfold depD at hn; exact absurd hn (by omega)
      | _ => cases fd
  | succ n ih =>
    intro d e x y u v A hn hu hx hy rx ry sh
    cases fd : flatD d with
    | some x' =>
      obtain ⟨y', fe⟩ := shD_flat fd sh
      obtain ⟨rfl, f1⟩ := hx.flat fd
      obtain ⟨rfl, f2⟩ := hy.flat fe
      rw [eqD_flat fd fe]
      exact eqAt_V rx ry f1 f2
    | none =>
      cases d with
      | tup ds =>
        cases e with
        | tup es =>
          cases hx with
          | @tup a xs _ h hs =>
            cases hy with
            | @tup b ys _ h' hs' =>
              cases rx
              cases ry
              by_cases hab : a = b
              · subst hab
                have e := Den.inj I (.tup h hs) (.tup h' hs')
                rw [e, eqD_refl]
                exact EqAt.same _
              · obtain ⟨us, r, ht, _⟩ := I.tuple (SqT.of h)
                obtain ⟨ws, r', ht', _⟩ := I.tuple (SqT.of h')
                have sh' : shDs ds es = true := by unfold shD at sh; exact sh
                rw [show eqD (.tup ds) (.tup es) = eqDs ds es from by unfold eqD; rfl]
                rw [← eqDs_min]
                have l1 : us.toArray.size = ds.length := by rw [List.size_toArray, ← r.length, hs.length]
                have l2 : ws.toArray.size = es.length := by rw [List.size_toArray, ← r'.length, hs'.length]
                rw [← l1, ← l2]
                refine EqAt.of_refs hab (RcAt.tuples ht ht' (by omega) fun j h1 h2 => ?_)
                obtain ⟨p, rp, dp, ep⟩ := hs.getD r (j := j) (by simpa using h1)
                obtain ⟨q, rq, dq, eq⟩ := hs'.getD r' (j := j) (by simpa using h2)
                unfold depD at hn
                have hd := depDs_mem (List.mem_of_getElem? ep)
                exact ih (A := A.in1) (by omega) (by show A.units + 1 + n < cLine; omega) dp dq (by simpa using rp) (by simpa using rq) (shDs_get sh' ep eq)
        | _ => unfold shD at sh; cases sh
      | lst ds =>
        cases e with
        | lst es =>
          cases hx with
          | @lst a xs _ h hs =>
            cases hy with
            | @lst b ys _ h' hs' =>
              cases rx
              cases ry
              by_cases hab : a = b
              · subst hab
                have e := Den.inj I (.lst h hs) (.lst h' hs')
                rw [e, eqD_refl]
                exact EqAt.same _
              · obtain ⟨us, r, ht, _⟩ := I.list h
                obtain ⟨ws, r', ht', _⟩ := I.list h'
                have sh' : shDs ds es = true := by unfold shD at sh; exact sh
                rw [show eqD (.lst ds) (.lst es) = eqDs ds es from by unfold eqD; rfl]
                have l1 : us.toArray.size = ds.length := by rw [List.size_toArray, ← r.length, hs.length]
                have l2 : ws.toArray.size = es.length := by rw [List.size_toArray, ← r'.length, hs'.length]
                by_cases hl : ds.length = es.length
                · rw [← eqDs_all hl, ← l1]
                  refine EqAt.of_refs hab (RcAt.lists ht.isList ht'.isList (by rw [l1, l2]; exact hl) (by omega) fun j h1 h2 => ?_)
                  obtain ⟨p, rp, dp, ep⟩ := hs.getD r (j := j) (by simpa using h1)
                  obtain ⟨q, rq, dq, eq⟩ := hs'.getD r' (j := j) (by simpa using h2)
                  unfold depD at hn
                  have hd := depDs_mem (List.mem_of_getElem? ep)
                  exact ih (A := A.in1) (by omega) (by show A.units + 1 + n < cLine; omega) dp dq (by simpa using rp) (by simpa using rq) (shDs_get sh' ep eq)
                · rw [eqDs_len hl]
                  exact EqAt.of_refs hab (RcAt.lists_lengths ht.isList ht'.isList (by rw [l1, l2]; simpa using hl) (by omega))
        | _ => unfold shD at sh; cases sh
      | _ => cases fd
end L2
namespace L2
open PySem PySem.Spec PyProof.Rows PySem.SeqAt

section
variable {X : Cx} {pins : List (Addr × Obj)} {σ : St} {H : Hp} {s : Shared}
/-- two lists, or two tuples -/
def seqD : Dt → Option (List Dt)
  | .tup ds => some ds
  | .lst ds => some ds
  | _ => none
theorem items_den {n : Nat} {A : Around} (I : Inv X pins σ H s) {xs ys : List V} {ds es : List Dt} {us ws : List Value} (hn : depDs ds ≤ n) (hu : A.units + (n + 1) < cLine) (hs : Dens X.K H xs ds) (hs' : Dens X.K H ys es) (r : Vals xs us) (r' : Vals ys ws)
    (sh : shDs ds es = true) (j : Nat) (h1 : j < us.toArray.size) (h2 : j < ws.toArray.size) : EqAt A.in1 s us.toArray[j] ws.toArray[j] (atD ds es j) := by
  obtain ⟨p, rp, dp, ep⟩ := hs.getD r (j := j) (by simpa using h1)
  obtain ⟨q, rq, dq, eq⟩ := hs'.getD r' (j := j) (by simpa using h2)
  have hd := depDs_mem (List.mem_of_getElem? ep)
  exact eqAt_den I n (A := A.in1) (by omega) (by show A.units + 1 + n < cLine; omega) dp dq (by simpa using rp) (by simpa using rq) (shDs_get sh ep eq)
theorem rcAt_den {A : Around} (I : Inv X pins σ H s) {d e : Dt} {a b : Addr} (hq : (seqD d).isSome = true) (hu : A.units + 60 < cLine) (hn : depD d ≤ 50) (hx : Den X.K H (.ref a) d) (hy : Den X.K H (.ref b) e) (sh : shD d e = true) : RcAt A s (.ref a) (.ref b) (eqD d e) ∧ RcNeAt A s (.ref a) (.ref b) (!eqD d e) := by
  cases d with
  | tup ds =>
    cases e with
    | tup es =>
      cases hx with
      | tup h hs =>
        cases hy with
        | tup h' hs' =>
          obtain ⟨us, r, ht, _⟩ := I.tuple (SqT.of h)
          obtain ⟨ws, r', ht', _⟩ := I.tuple (SqT.of h')
          have sh' : shDs ds es = true := by unfold shD at sh; exact sh
          have hn' : depDs ds ≤ 49 := by unfold depD at hn; omega
          rw [show eqD (.tup ds) (.tup es) = eqDs ds es from by unfold eqD; rfl, ← eqDs_min]
          have l1 : us.toArray.size = ds.length := by rw [List.size_toArray, ← r.length, hs.length]
          have l2 : ws.toArray.size = es.length := by rw [List.size_toArray, ← r'.length, hs'.length]
          rw [← l1, ← l2]
          exact ⟨RcAt.tuples ht ht' (by omega) (items_den I hn' (by omega) hs hs' r r' sh'), RcNeAt.tuples ht ht' (by omega) (items_den I hn' (by omega) hs hs' r r' sh')⟩
    | _ => unfold shD at sh; cases sh
  | lst ds =>
    cases e with
    | lst es =>
      cases hx with
      | lst h hs =>
        cases hy with
        | lst h' hs' =>
          obtain ⟨us, r, ht, _⟩ := I.list h
          obtain ⟨ws, r', ht', _⟩ := I.list h'
          have sh' : shDs ds es = true := by unfold shD at sh; exact sh
          have hn' : depDs ds ≤ 49 := by unfold depD at hn; omega
          rw [show eqD (.lst ds) (.lst es) = eqDs ds es from by unfold eqD; rfl]
          have l1 : us.toArray.size = ds.length := by rw [List.size_toArray, ← r.length, hs.length]
          have l2 : ws.toArray.size = es.length := by rw [List.size_toArray, ← r'.length, hs'.length]
          by_cases hl : ds.length = es.length
          · rw [← eqDs_all hl, ← l1]
            exact ⟨RcAt.lists ht.isList ht'.isList (by rw [l1, l2]; exact hl) (by omega) (items_den I hn' (by omega) hs hs' r r' sh'), RcNeAt.lists ht.isList ht'.isList (by rw [l1, l2]; exact hl) (by omega) (items_den I hn' (by omega) hs hs' r r' sh')⟩
          · rw [eqDs_len hl]
            exact ⟨RcAt.lists_lengths ht.isList ht'.isList (by rw [l1, l2]; simpa using hl) (by omega), RcNeAt.lists_lengths ht.isList ht'.isList (by rw [l1, l2]; simpa using hl) (by omega)⟩
    | _ => unfold shD at sh; cases sh
  | _ => cases hq
/-- a == b, a != b of two lists or two tuples -/
def rEqD (K : PySem.W.Frag) (neg : Bool) : R2 := fun x y H Q => ∃ d e, (seqD d).isSome = true ∧ Den K H x d ∧ Den K H y e ∧ shD d e = true ∧ depD d ≤ 50 ∧ Q (.bl (if neg then !eqD d e else eqD d e)) H
theorem Den.ref_of {K : PySem.W.Frag} {x : V} {d e : Dt} {y : V} (hq : (seqD d).isSome = true) (hx : Den K H x d) (hy : Den K H y e) (sh : shD d e = true) : ∃ a b, x = .ref a ∧ y = .ref b := by
  cases hx with
  | @tup a _ _ _ _ =>
    cases hy with
    | @tup b _ _ _ _ => exact ⟨a, b, rfl, rfl⟩
    | _ => unfold shD at sh; cases sh
  | @lst a _ _ _ _ =>
    cases hy with
    | @lst b _ _ _ _ => exact ⟨a, b, rfl, rfl⟩
    | _ => unfold shD at sh; cases sh
  | _ => cases hq
theorem op_eqD (hu : X.A.units + 60 < cLine) : OpR X (compareOp .Eq) (rEqD X.K false) := by
  intro pins s σ H x y v u Q I rx ry h
  obtain ⟨d, e, hq, hx, hy, sh, hn, q⟩ := h
  obtain ⟨a, b, rfl, rfl⟩ := Den.ref_of hq hx hy sh
  cases rx
  cases ry
  exact (rcAt_den I hq hu hn hx hy sh).1 _ _ _ _ ⟨.bl _, H, I, rfl, q⟩
theorem op_neD (hu : X.A.units + 60 < cLine) : OpR X (compareOp .NotEq) (rEqD X.K true) := by
  intro pins s σ H x y v u Q I rx ry h
  obtain ⟨d, e, hq, hx, hy, sh, hn, q⟩ := h
  obtain ⟨a, b, rfl, rfl⟩ := Den.ref_of hq hx hy sh
  cases rx
  cases ry
  exact (rcAt_den I hq hu hn hx hy sh).2 _ _ _ _ ⟨.bl _, H, I, rfl, q⟩
/-- x in xs, x not in xs -/
def rInD (K : PySem.W.Frag) (neg : Bool) : R2 := fun x y H Q => ∃ d es p, y = .ref p ∧ Den K H x d ∧ (Den K H y (.lst es) ∨ Den K H y (.tup es)) ∧ (∀ e ∈ es, shD e d = true ∧ depD e ≤ 50) ∧ Q (.bl (if neg then !(es.any fun e => eqD e d) else es.any fun e => eqD e d)) H
theorem any_den {K : PySem.W.Frag} {d : Dt} {P : Value → Bool} : ∀ {xs : List V} {es : List Dt} {us : List Value}, Dens K H xs es → Vals xs us → (∀ (j : Nat) (u : Value) (e : Dt), us[j]? = some u → es[j]? = some e → P u = eqD e d) → us.any P = es.any fun e => eqD e d
  | _, _, _, .nil, .nil, _ => rfl
  | _, _, _, .cons _ t, .cons _ r, h => by
    rw [List.any_cons, List.any_cons, h 0 _ _ rfl rfl, any_den t r fun j u e h1 h2 => h (j + 1) u e (by simpa using h1) (by simpa using h2)]
open Classical in
theorem in_den (I : Inv X pins σ H s) {x : V} {v : Value} {d : Dt} {ys : List V} {es : List Dt} {us : List Value} {A : Around} (hu : A.units + 60 < cLine) (rx : RelV x v) (hx : Den X.K H x d) (hs : Dens X.K H ys es) (r : Vals ys us) (hsh : ∀ e ∈ es, shD e d = true ∧ depD e ≤ 50) :
    ∃ P : Value → Bool, (∀ u ∈ us, EqAt A s u v (P u)) ∧ us.any P = es.any fun e => eqD e d := by
  have key : ∀ (j : Nat) (u : Value) (e : Dt), us[j]? = some u → es[j]? = some e → EqAt A s u v (eqD e d) ∧ ∃ y, RelV y u ∧ Den X.K H y e := fun j u e h1 h2 => by
    obtain ⟨y, h3, dy⟩ := hs.get' h2
    obtain ⟨u', h4, ry⟩ := r.get h3
    rw [h1] at h4; cases h4
    obtain ⟨a1, a2⟩ := hsh e (List.mem_of_getElem? h2)
    exact ⟨eqAt_den I 50 a2 (by omega) dy hx ry rx a1, y, ry, dy⟩
  have one : ∀ (j : Nat) (u : Value) (e : Dt), us[j]? = some u → es[j]? = some e → decide (∃ y e, RelV y u ∧ Den X.K H y e ∧ eqD e d = true) = eqD e d := fun j u e h1 h2 => by
    obtain ⟨_, y, ry, dy⟩ := key j u e h1 h2
    cases q : eqD e d with
    | true => exact decide_eq_true ⟨y, _, ry, dy, q⟩
    | false =>
      refine decide_eq_false fun ⟨y', e', ry', dy', q'⟩ => ?_
      have ey := ry.inj ry'
      subst ey
      rw [Den.inj I dy' dy, q] at q'
      cases q'
  refine ⟨fun u => decide (∃ y e, RelV y u ∧ Den X.K H y e ∧ eqD e d = true), fun u hu' => ?_, any_den hs r one⟩
  obtain ⟨j, hj⟩ := List.getElem?_of_mem hu'
  have hl : j < es.length := by rw [← hs.length, r.length]; exact (List.getElem?_eq_some_iff.mp hj).1
  have e1 := (key j u es[j] hj (by simp [hl])).1
  show EqAt A s u v (decide _)
  rw [one j u es[j] hj (by simp [hl])]
  exact e1
theorem op_inD (hu : X.A.units + 61 < cLine) : OpR X (compareOp .In) (rInD X.K false) := by
  intro pins s σ H x y v u Q I rx ry h
  obtain ⟨d, es, p, rfl, hx, hy, hsh, q⟩ := h
  cases ry
  rcases hy with hy | hy
  · cases hy with
    | lst h' hs =>
      obtain ⟨us, r, ht, _⟩ := I.list h'
      obtain ⟨P, hP, e⟩ := in_den (A := X.A.in1) I (by show X.A.units + 1 + 60 < cLine; omega) rx hx hs r hsh
      exact in_listAt P ht.isList (fun z hz => hP z (by simpa using hz)) ⟨.bl _, H, I, by rw [← e]; simp <;> rfl, q⟩
  · cases hy with
    | tup h' hs =>
      obtain ⟨us, r, ht, _⟩ := I.tuple (SqT.of h')
      obtain ⟨P, hP, e⟩ := in_den (A := X.A.in1) I (by show X.A.units + 1 + 60 < cLine; omega) rx hx hs r hsh
      exact in_tupleAt P ht (fun z hz => hP z (by simpa using hz)) ⟨.bl _, H, I, by rw [← e]; simp <;> rfl, q⟩
theorem op_notInD (hu : X.A.units + 61 < cLine) : OpR X (compareOp .NotIn) (rInD X.K true) := by
  intro pins s σ H x y v u Q I rx ry h
  obtain ⟨d, es, p, rfl, hx, hy, hsh, q⟩ := h
  cases ry
  rcases hy with hy | hy
  · cases hy with
    | lst h' hs =>
      obtain ⟨us, r, ht, _⟩ := I.list h'
      obtain ⟨P, hP, e⟩ := in_den (A := X.A.in1) I (by show X.A.units + 1 + 60 < cLine; omega) rx hx hs r hsh
      exact notIn_listAt P ht.isList (fun z hz => hP z (by simpa using hz)) ⟨.bl _, H, I, by rw [← e]; simp <;> rfl, q⟩
  · cases hy with
    | tup h' hs =>
      obtain ⟨us, r, ht, _⟩ := I.tuple (SqT.of h')
      obtain ⟨P, hP, e⟩ := in_den (A := X.A.in1) I (by show X.A.units + 1 + 60 < cLine; omega) rx hx hs r hsh
      exact notIn_tupleAt P ht (fun z hz => hP z (by simpa using hz)) ⟨.bl _, H, I, by rw [← e]; simp <;> rfl, q⟩
end
end L2

set_option Elab.async false
set_option linter.all false
set_option maxRecDepth 100000
namespace L2
open PySem PySem.Spec PyProof.Rows

/-! ## A def as its callers see it -/
structure Df (P : Program) (w : World) (K : PySem.W.Frag) (mg : Str → Option Value) (base : Heap) (k : Nat) (x : Str) (ps : List Str) (sp : Sp) : Prop where
  ex : ∃ f fd, FnOk P w K mg base (CXE P w) k f fd ps sp ∧ mg x = some (.ref f) ∧ PySem.W.keepIn K (.ref f) = true ∧ Binds K fd ps []
theorem passE {X : Cx} : Passes (CXE X.prog X.w) X E0 := by
  intro pins σ H s e s' I h
  obtain ⟨ea, C, H', _, _, _, _, _, _, z⟩ := h
  exact z.elim
section
variable {P : Program} {w : World} {K : PySem.W.Frag} {mg : Str → Option Value} {base : Heap}
theorem Fun.okE {x qual : Str} {st : Stmt} {f : Addr} {fd : FuncData} {N ps : List Str} {k : Nat} {sp : Sp} (F : Fun K x qual st f fd) (S : FnScope N ps (defScope st)) (len : ∀ vs H Q E, sp vs H Q E → vs.length = ps.length)
    (hbody : ∀ (cdv : Value) (A : Around) (outer : List Env) (s : Shared) (H : Hp) (vs : List V) (Q : VK) (E : XK), Room k (A.deeper (envOfC qual (defScope st) s.heap.objs.size f cdv)) → sp vs H Q E →
      ∃ t, PSs (cxOf (CXE P w) P w K mg base N qual (defScope st) f cdv A outer s H E) (defBody st) t ∧ t { nx := fun _ H' => Q .non H', rt := Q } (start N vs) H) : FnOk P w K mg base (CXE P w) (k + 1) f fd ps sp := by
  obtain ⟨oc, od, kV, doc, pm, an, cdv, ct, osl, rfl, lk, hcd⟩ := F.ex
  exact fn_of lk hcd S len fun A outer s H vs Q E hr hsp => hbody cdv A outer s H vs Q E hr hsp
/-- .. no error leaves it -/
theorem Fun.ok0 {x qual : Str} {st : Stmt} {f : Addr} {fd : FuncData} {N ps : List Str} {k : Nat} {sp : Sp} (F : Fun K x qual st f fd) (S : FnScope N ps (defScope st)) (len : ∀ vs H Q E, sp vs H Q E → vs.length = ps.length)
    (hbody : ∀ (cdv : Value) (A : Around) (outer : List Env) (s : Shared) (H : Hp) (vs : List V) (Q : VK) (E : XK), Room k (A.deeper (envOfC qual (defScope st) s.heap.objs.size f cdv)) → sp vs H Q E →
      ∃ t, PSs (cxOf (CXE P w) P w K mg base N qual (defScope st) f cdv A outer s H E).nox (defBody st) t ∧ t { nx := fun _ H' => Q .non H', rt := Q } (start N vs) H) : FnOk P w K mg base (CXE P w) (k + 1) f fd ps sp :=
  F.okE S len fun cdv A outer s H vs Q E hr hsp => let ⟨t, h, q⟩ := hbody cdv A outer s H vs Q E hr hsp; ⟨t, h.nox, q⟩
end
theorem PS.nox {X : Cx} {st : Stmt} {t : TS} (h : PS X.nox st t) : PS X st t := fun pins s σ H D I hw =>
  wpAny_mono (h pins s σ H D (I.wish _) hw) (fun _ _ q => SP.unwish q) fun _ _ z => False.elim z
section
variable {X : Cx} {k j : Nat} {ps : List Str} {sp : Sp} {E : XK} {x : Str} {p pos : Pos} {e : Expr} {es : List Expr} {t : TA}
/-- f(e, ..) -/
theorem pe_def (D : Df X.prog X.w X.K X.mg X.base k x ps sp) (hr : Room j X.A) (hg : Gl X x) (hx : Passes (CXE X.prog X.w) X E) (ha : PA X (e :: es) t) (hk : k ≤ j := by decide)
    (hdb : (x == ("__debug__" : Str)) = false := by decide) (he : starEach (e :: es) X.env = (false, eval e X.env) :: starEach es X.env := by rfl) (hpl : (backTo pos (starEach es X.env)).any (·.1) = false := by rfl) :
    PE X (.Call (.Name x p) (e :: es) [] pos) (tCall sp [] E t) := by
  obtain ⟨f, fd, F, hm, kp, hb⟩ := D.ex
  exact pe_call F (hr.mono hk) hg hm kp hb .nil hx ha hdb he hpl
/-- .. whose error is caught -/
theorem pex_def (D : Df X.prog X.w X.K X.mg X.base k x ps sp) (hr : Room j X.A) (hg : Gl X x) (ha : PA X.nox (e :: es) t) (hk : k ≤ j := by decide)
    (hdb : (x == ("__debug__" : Str)) = false := by decide) (he : starEach (e :: es) X.env = (false, eval e X.env) :: starEach es X.env := by rfl) (hpl : (backTo pos (starEach es X.env)).any (·.1) = false := by rfl) :
    PEX X (.Call (.Name x p) (e :: es) [] pos) (tCallX sp [] t) := by
  obtain ⟨f, fd, F, hm, kp, hb⟩ := D.ex
  exact pex_call F (hr.mono hk) hg hm kp hb .nil ha hdb he hpl
end

/-! ## Names of the file's top that hold an int, a text, a list, a tuple -/
section
variable {X : Cx} {x : Str} {pos : Pos}
theorem pe_gint {i : Int} (h : ∃ t, X.mg x = some (.int i t)) (hg : Gl X x) (hd : (x == ("__debug__" : Str)) = false := by decide) : PE X (.Name x pos) (tC (.int i)) := by
  obtain ⟨t, h⟩ := h
  exact pe_glob hg h ⟨t, rfl⟩ hd
theorem pe_gstr {z : Str} (h : ∃ t, X.mg x = some (.str z t)) (hg : Gl X x) (hd : (x == ("__debug__" : Str)) = false := by decide) : PE X (.Name x pos) (tC (.str z)) := by
  obtain ⟨t, h⟩ := h
  exact pe_glob hg h ⟨t, rfl⟩ hd
end

/-! ## Operations by what stands there -/
section
variable {X : Cx}
def rAddG : R2 := fun x y H Q => match x, y with
  | .int i, .int j => Q (.int (i + j)) H
  | .str i, .str j => i.length + j.length ≤ sizeLine ∧ Q (.str (i ++ j)) H
  | .ref l, .ref b => ∃ xs zs, H l = some (.lst xs) ∧ H b = some (.lst zs) ∧ xs.length + zs.length ≤ sizeLine ∧ ∀ p, H p = none → Q (.ref p) (upd H p (.lst (xs ++ zs)))
  | _, _ => False
theorem op_addG : OpR X (binaryOp .Add) rAddG := by
  intro pins s σ H x y v u Q I rx ry h
  unfold rAddG at h
  split at h
  · exact op_add pins s σ H _ _ v u Q I rx ry ⟨_, _, rfl, rfl, h⟩
  · exact op_add_str pins s σ H _ _ v u Q I rx ry ⟨_, _, rfl, rfl, h.1, h.2⟩
  · obtain ⟨xs, zs, h1, h2, h3, h4⟩ := h
    exact op_cat pins s σ H _ _ v u Q I rx ry ⟨_, _, xs, zs, rfl, rfl, h1, h2, h3, h4⟩
  · exact h.elim
def rMulG : R2 := fun x y H Q => match x, y with
  | .int i, .int j => CMul i j ∧ Q (.int (i * j)) H
  | .str z, .int n => z.length ≤ 1000 ∧ -1000 ≤ n ∧ n ≤ 1000 ∧ Q (.str (repS z n)) H
  | .ref l, .int k => ∃ xs, H l = some (.lst xs) ∧ -(2 ^ 63) ≤ k ∧ k < 2 ^ 63 ∧ xs.length * k.toNat ≤ sizeLine ∧ ∀ p, H p = none → Q (.ref p) (upd H p (.lst (List.replicate k.toNat xs).flatten))
  | _, _ => False
theorem op_mulG : OpR X (binaryOp .Mult) rMulG := by
  intro pins s σ H x y v u Q I rx ry h
  unfold rMulG at h
  split at h
  · exact op_mul pins s σ H _ _ v u Q I rx ry ⟨_, _, rfl, rfl, h.1, h.2⟩
  · exact op_mul_str pins s σ H _ _ v u Q I rx ry ⟨_, _, rfl, rfl, h.1, h.2.1, h.2.2.1, h.2.2.2⟩
  · obtain ⟨xs, h1, h2, h3, h4, h5⟩ := h
    exact op_rep pins s σ H _ _ v u Q I rx ry ⟨_, _, xs, rfl, rfl, h1, h2, h3, h4, h5⟩
  · exact h.elim
end
end L2

set_option Elab.async false
set_option linter.all false
set_option maxRecDepth 100000
namespace L2
open PySem PySem.Spec PyProof.Rows

/-! ## isinstance -/
/-- the answer is yes: only the thing's own class is looked at -/
theorem yes_ans {K : PySem.W.Frag} {x t c : Value} {Hp' : Heap → Prop} (ty : ∀ (M : Model) (h : Heap), Hp' h → PySem.W.Looks M h (typeOf x) t) (e : PySem.W.kitOne K t c = some true) : Answers (fun s => K.In s.heap ∧ Hp' s.heap) x c true := by
  intro dep tk prog w A R s hs
  obtain ⟨hh, g, d, tt, os⟩ := s
  obtain ⟨⟨kin, p⟩, hq⟩ := hs
  have look := ty (model prog w) hh p
  unfold PySem.W.kitOne at e
  unfold Builtin.«isinstance.nested»
  refine wpAny_bind (PySem.W.Looks.at look ?_)
  cases q : (t == c) with
  | true =>
    rw [if_pos rfl]
    exact wpAny_bind (wpAny_rule (wpAny_pure (hq tt)))
  | false =>
    rw [q, if_neg Bool.false_ne_true] at e
    rw [if_neg Bool.false_ne_true]
    obtain ⟨l1, l2, l3⟩ := PySem.W.kit_cls (M := model prog w) kin e
    have l4 : PySem.W.Looks (model prog w) hh (isInstance x c) true := PySem.W.Looks.andThen look l3
    refine wpAny_bind (PySem.W.Looks.at l1 ?_)
    rw [if_pos (by decide)]
    k_delta "plainIsInstance"
    refine wpAny_bind (wpAny_bind (PySem.W.Looks.at l2 ?_))
    simp only [Bool.not_true, Bool.false_eq_true, if_false]
    exact wpAny_bind (PySem.W.Looks.at l4 (wpAny_pure (wpAny_pure (hq tt))))

/-- a class as a value -/
def clsV : V → Option Value
  | .ty n => some (.type n)
  | .ref a => some (.ref a)
  | _ => none
theorem clsV_is {c : V} {cv u : Value} (h : clsV c = some cv) (r : RelV c u) : u = cv := by
  cases c with
  | ty n => cases h; exact r
  | ref a => cases h; exact r
  | _ => cases h
section
variable {X : Cx}
def rIsi (K : PySem.W.Frag) : List V → Hp → VK → Prop := fun xs H Q => ∃ x c cv, xs = [x, c] ∧ clsV c = some cv ∧
  ((∃ t b, TyOf K H x t ∧ PySem.W.kitOne K t cv = some b ∧ Q (.bl b) H) ∨ (∃ ea C, x = .ref ea ∧ H ea = some (ErrO ea C) ∧ PySem.W.kitOne K (.ref C) cv = some true ∧ Q (.bl true) H))
theorem call_isi : CallR X (.builtin "isinstance") (rIsi X.K) := by
  intro pins s σ H xs us Q I r h
  obtain ⟨x, c, cv, rfl, hc, h⟩ := h
  obtain ⟨u, u', rfl, ru, rc⟩ := vals2 r
  have e := clsV_is hc rc
  subst e
  rcases h with ⟨t, b, ty, hk, q⟩ | ⟨ea, C, rfl, hE, hk, q⟩
  · exact isinst_ok I ru ty hk fun tk => ⟨.bl b, H, I.tok tk, rfl, q⟩
  · cases ru
    obtain ⟨⟨ob, e1, e2⟩, _, _⟩ := (show ObjOk X.prog X.w H s.heap ea (ErrO ea C) from I.hok ea _ hE)
    refine call_isinstance (S := fun _ R s' => (X.K.In s'.heap ∧ (fun h : Heap => ∃ o, h.get? ea = some o ∧ o.cls = .ref C) s'.heap) ∧ ∀ tk, R (.ok (.ret (.bool true))) { s' with toks := tk })
      (fun prog w A R s' hs => isinstance_outer (yes_ans (K := X.K) (t := .ref C) (Hp' := fun h => ∃ o, h.get? ea = some o ∧ o.cls = .ref C) (fun M h p => ?_) hk 0 _ prog w A R s' hs) (by intro z; cases z)) ⟨⟨I.kIn, ⟨ob, e1, e2⟩⟩, fun tk => ⟨.bl true, H, I.tok tk, rfl, q⟩⟩
    obtain ⟨o, h1, h2⟩ := p
    exact h2 ▸ (PySem.W.Looks.ld h1).andThen .now
end
end L2

set_option Elab.async false
set_option linter.all false
set_option maxRecDepth 100000
namespace L2
open PySem PySem.Spec PyProof.Rows

/-! ## Readings in short -/
/-- a comprehension over n things that are known -/
theorem comp_by {J : It} {n : Nat} {item : Nat → V} {tc : TT} {te : TE} {σ : St} {fin : List V → Hp → Prop} {H : Hp} (R : Nat → List V → Hp → Prop) (hn : n ≤ sizeLine)
    (hgo : ∀ i ys H, i < n → R i ys H → J.go i H) (hy : ∀ i ys H v H', i < n → R i ys H → J.yld i H v H' → v = item i ∧ H' = H) (hstop : ∀ ys H, R n ys H → J.stop n H)
    (hl : ∀ i ys H, i ≤ n → R i ys H → ys.length ≤ i) (h0 : R 0 [] H)
    (hs : ∀ i ys H, i < n → R i ys H → ∀ G : List V → Hp → Prop, (∀ ys' H', R (i + 1) ys' H' → G ys' H') → tc (some (item i) :: σ) H fun b H2 => if b = true then te (some (item i) :: σ) H2 fun y H3 => G (ys ++ [y]) H3 else G ys H2)
    (hd : ∀ ys H, R n ys H → fin ys H) : ∃ W : Nat → Nat → List V → Hp → Prop, (∃ m, W 0 m [] H) ∧ CompW J tc te σ fin W := by
  refine ⟨fun i m ys H => m = n - i ∧ i ≤ n ∧ R i ys H, ⟨n, by omega, Nat.zero_le _, h0⟩, ?_⟩
  rintro i m ys H ⟨rfl, hi, r⟩
  refine ⟨Nat.le_trans (hl i ys H hi r) (Nat.le_trans hi hn), ?_⟩
  by_cases hlt : i < n
  · refine .inr ⟨hgo i ys H hlt r, fun v H' y => ?_⟩
    obtain ⟨rfl, rfl⟩ := hy i ys H v H' hlt r y
    exact hs i ys _ hlt r (fun ys' H2 => ∃ m', m' < n - i ∧ (m' = n - (i + 1) ∧ i + 1 ≤ n ∧ R (i + 1) ys' H2)) fun ys' H2 r' => ⟨n - (i + 1), by omega, rfl, hlt, r'⟩
  · have e : i = n := by omega
    subst e
    exact .inl ⟨hstop ys H r, hd ys H r⟩
/-- .. over a list -/
theorem comp_list {K : PySem.W.Frag} {a : Addr} {xs : List V} {tc : TT} {te : TE} {σ : St} {fin : List V → Hp → Prop} {H : Hp} (R : Nat → List V → Hp → Prop) (hn : xs.length ≤ sizeLine)
    (hq : ∀ i ys H, i ≤ xs.length → R i ys H → SqL K H a xs) (hl : ∀ i ys H, i ≤ xs.length → R i ys H → ys.length ≤ i) (h0 : R 0 [] H)
    (hs : ∀ i x ys H, xs[i]? = some x → R i ys H → ∀ G : List V → Hp → Prop, (∀ ys' H', R (i + 1) ys' H' → G ys' H') → tc (some x :: σ) H fun b H2 => if b = true then te (some x :: σ) H2 fun y H3 => G (ys ++ [y]) H3 else G ys H2)
    (hd : ∀ ys H, R xs.length ys H → fin ys H) : ∃ W : Nat → Nat → List V → Hp → Prop, (∃ m, W 0 m [] H) ∧ CompW (Itl K a) tc te σ fin W := by
  refine comp_by (n := xs.length) (item := fun i => xs.getD i .non) R hn (fun i ys H hi r => ⟨xs, xs[i], hq i ys H (Nat.le_of_lt hi) r, by simp [hi]⟩) (fun i ys H v H' hi r y => ?_) (fun ys H r => ⟨xs, hq _ ys H (Nat.le_refl _) r, Nat.le_refl _⟩) hl h0 (fun i ys H hi r => ?_) hd
  · obtain ⟨e, y⟩ := y
    have := y xs (hq i ys H (Nat.le_of_lt hi) r)
    exact ⟨by rw [List.getD_eq_getElem?_getD, this]; rfl, e⟩
  · have e : xs[i]? = some (xs.getD i .non) := by simp [List.getD_eq_getElem?_getD, hi]
    exact hs i _ ys H e r
/-- .. over a range -/
theorem comp_range {lo : Int} {n : Nat} {tc : TT} {te : TE} {σ : St} {fin : List V → Hp → Prop} {H : Hp} (R : Nat → List V → Hp → Prop) (hn : n ≤ sizeLine)
    (hl : ∀ i ys H, i ≤ n → R i ys H → ys.length ≤ i) (h0 : R 0 [] H)
    (hs : ∀ i ys H, i < n → R i ys H → ∀ G : List V → Hp → Prop, (∀ ys' H', R (i + 1) ys' H' → G ys' H') → tc (some (.int (lo + i)) :: σ) H fun b H2 => if b = true then te (some (.int (lo + i)) :: σ) H2 fun y H3 => G (ys ++ [y]) H3 else G ys H2)
    (hd : ∀ ys H, R n ys H → fin ys H) : ∃ W : Nat → Nat → List V → Hp → Prop, (∃ m, W 0 m [] H) ∧ CompW (Itr lo n) tc te σ fin W :=
  comp_by (n := n) (item := fun i => .int (lo + i)) R hn (fun i ys H hi r => hi) (fun i ys H v H' hi r y => ⟨y.2, y.1⟩) (fun ys H r => Nat.le_refl _) hl h0 hs hd
/-- .. over a text's signs -/
theorem comp_str {z : Str} {tc : TT} {te : TE} {σ : St} {fin : List V → Hp → Prop} {H : Hp} (R : Nat → List V → Hp → Prop) (hn : z.length ≤ sizeLine)
    (hl : ∀ i ys H, i ≤ z.length → R i ys H → ys.length ≤ i) (h0 : R 0 [] H)
    (hs : ∀ i c ys H, z.cps.toList[i]? = some c → R i ys H → ∀ G : List V → Hp → Prop, (∀ ys' H', R (i + 1) ys' H' → G ys' H') → tc (some (.str ⟨#[c]⟩) :: σ) H fun b H2 => if b = true then te (some (.str ⟨#[c]⟩) :: σ) H2 fun y H3 => G (ys ++ [y]) H3 else G ys H2)
    (hd : ∀ ys H, R z.length ys H → fin ys H) : ∃ W : Nat → Nat → List V → Hp → Prop, (∃ m, W 0 m [] H) ∧ CompW (Its z) tc te σ fin W := by
  have hz : z.length = z.cps.size := rfl
  refine comp_by (n := z.length) (item := fun i => .str ⟨#[z.cps.getD i 0]⟩) R hn (fun i ys H hi r => hi) (fun i ys H v H' hi r y => ?_) (fun ys H r => Nat.le_refl _) hl h0 (fun i ys H hi r => ?_) hd
  · obtain ⟨e, c, ec, y⟩ := y
    rw [y, Array.getD_eq_getD_getElem?, ec]
    exact ⟨rfl, e⟩
  · have hi' : i < z.cps.size := hi
    have e : z.cps.toList[i]? = some (z.cps.getD i 0) := by simp [Array.getD_eq_getD_getElem?, hi']
    exact hs i _ ys H e r

/-! ### heaps that grow -/
theorem Same.put {H : Hp} {p : Addr} {o : HO} (h : H p = none) : Same H (upd H p o) := fun b u e => by
  rw [upd_ne (ne_of_none e h)]; exact e
theorem Same.and {H H' : Hp} {p : Addr} {o : HO} (s : Same H H') (h : H' p = none) : Same H (L2.upd H' p o) := s.trans (Same.put h)
theorem Same.tup {K : PySem.W.Frag} {H H' : Hp} {a : Addr} {xs : List V} (e : Same H H') (h : SqT K H a xs) : SqT K H' a xs := by
  rcases h with (h | ⟨o, h⟩) | h
  · exact .inl (.inl (e _ _ h))
  · exact .inl (.inr ⟨o, e _ _ h⟩)
  · exact .inr h
theorem small {n : Nat} (h : n ≤ 10000) : n ≤ sizeLine := Nat.le_trans h (by rw [sizeLine_eq]; decide)
theorem atI_int {ns : List Int} {i : Int} (h0 : 0 ≤ i) (h1 : i < ns.length) : ∃ v, atI (ns.map V.int) i = some (V.int v) := by
  obtain ⟨k, rfl⟩ := Int.eq_ofNat_of_zero_le h0
  have hk : k < ns.length := by omega
  exact ⟨ns[k], atI_nat (by simp [hk])⟩
theorem atI_of {α : Type} {xs : List α} {i : Int} (h0 : 0 ≤ i) (h1 : i < xs.length) : ∃ v, v ∈ xs ∧ atI xs i = some v := by
  obtain ⟨k, rfl⟩ := Int.eq_ofNat_of_zero_le h0
  have hk : k < xs.length := by omega
  exact ⟨xs[k], List.getElem_mem hk, atI_nat (by simp [hk])⟩
/-! ### room for == and in -/
theorem hu60 {A : Around} {k : Nat} (hr : Room k A) : A.units + 60 < cLine := Nat.lt_of_le_of_lt (Nat.add_le_add_left (by decide : 60 ≤ 64) _) hr.units
theorem hu61 {A : Around} {k : Nat} (hr : Room k A) : A.units + 61 < cLine := Nat.lt_of_le_of_lt (Nat.add_le_add_left (by decide : 61 ≤ 64) _) hr.units
end L2

set_option Elab.async false
set_option linter.all false
set_option maxRecDepth 100000
namespace L2
open PySem PySem.Spec PyProof.Rows
/-! ## The same rules, where what hangs on the written tree is decided by its head alone -/
def notStar : Expr → Bool
  | .Starred _ _ => false
  | _ => true
theorem st_of {env : Env} {e : Expr} {es : List Expr} (h : notStar e = true) : starEach (e :: es) env = (false, eval e env) :: starEach es env := by
  cases e <;> first | rfl | cases h
theorem np_of {env : Env} {pos : Pos} : ∀ {es : List Expr}, es.all notStar = true → (backTo pos (starEach es env)).any (·.1) = false
  | [], _ => rfl
  | e :: es, h => by
    rw [List.all_cons, Bool.and_eq_true] at h
    rw [st_of h.1]
    show (false || (backTo pos (starEach es env)).any (·.1)) = false
    rw [np_of h.2]; rfl
section
variable {X : Cx} {k j : Nat} {ps : List Str} {sp : Sp} {E : XK} {x : Str} {p pos : Pos} {e : Expr} {es : List Expr} {te : TE} {t : TA} {id T : String} {r : List V → Hp → VK → Prop} {C f : Addr} {fd : FuncData}
theorem qa_cons (ha : PE X e te) (hr : PA X es t) (hs : notStar e = true := by rfl) : PA X (e :: es) (tCons te t) := pa_cons ha hr (st_of hs)
theorem qe_def (D : Df X.prog X.w X.K X.mg X.base k x ps sp) (hr : Room j X.A) (hg : Gl X x) (hx : Passes (CXE X.prog X.w) X E) (ha : PA X (e :: es) t) (hk : k ≤ j := by decide) (h1 : notStar e = true := by rfl) (h2 : es.all notStar = true := by rfl)
    (hdb : (x == ("__debug__" : Str)) = false := by decide) : PE X (.Call (.Name x p) (e :: es) [] pos) (tCall sp [] E t) := pe_def D hr hg hx ha hk hdb (st_of h1) (np_of h2)
theorem qex_def (D : Df X.prog X.w X.K X.mg X.base k x ps sp) (hr : Room j X.A) (hg : Gl X x) (ha : PA X.nox (e :: es) t) (hk : k ≤ j := by decide) (h1 : notStar e = true := by rfl) (h2 : es.all notStar = true := by rfl)
    (hdb : (x == ("__debug__" : Str)) = false := by decide) : PEX X (.Call (.Name x p) (e :: es) [] pos) (tCallX sp [] t) := pex_def D hr hg ha hk hdb (st_of h1) (np_of h2)
theorem qe_callB (hc : CallR X (.builtin id) r) (hg : Gl X x) (hm : X.mg x = none) (hv : bootBuiltins x = some (.builtin id)) (ha : PA X (e :: es) t) (h1 : notStar e = true := by rfl) (h2 : es.all notStar = true := by rfl) (hn : x ≠ "__name__" := by decide)
    (hdb : (x == ("__debug__" : Str)) = false := by decide) : PE X (.Call (.Name x p) (e :: es) [] pos) (tCB r t) := pe_callB hc hg hm hv ha hn hdb (st_of h1) (np_of h2)
theorem qe_callTy (hc : CallR X (.type T) r) (hg : Gl X x) (hm : X.mg x = none) (hv : bootBuiltins x = some (.type T)) (ha : PA X (e :: es) t) (h1 : notStar e = true := by rfl) (h2 : es.all notStar = true := by rfl) (hn : x ≠ "__name__" := by decide)
    (hdb : (x == ("__debug__" : Str)) = false := by decide) : PE X (.Call (.Name x p) (e :: es) [] pos) (tCB r t) := pe_callTy hc hg hm hv ha hn hdb (st_of h1) (np_of h2)
end
/-! ### C(..) of an own class -/
structure Md (P : Program) (w : World) (K : PySem.W.Frag) (mg : Str → Option Value) (base : Heap) (k : Nat) (x : Str) (ps : List Str) (C : Addr) (sp : Sp) : Prop where
  ex : ∃ f fd, Mk K C f ∧ FnOk P w K mg base (CXE P w) k f fd ps sp ∧ mg x = some (.ref C) ∧ Binds K fd ps []
section
variable {X : Cx} {k j : Nat} {ps : List Str} {sp : Sp} {E : XK} {x : Str} {p pos : Pos} {e : Expr} {es : List Expr} {te : TE} {t : TA} {C : Addr}
theorem qe_make (D : Md X.prog X.w X.K X.mg X.base k x ps C sp) (hr : Room j X.A) (hg : Gl X x) (hx : Passes (CXE X.prog X.w) X E) (ha : PA X (e :: es) t) (hk : k + 1 ≤ j := by decide) (h1 : notStar e = true := by rfl) (h2 : es.all notStar = true := by rfl)
    (hdb : (x == ("__debug__" : Str)) = false := by decide) : PE X (.Call (.Name x p) (e :: es) [] pos) (tMake C sp [] E t) := by
  obtain ⟨f, fd, M, F, hm, hb⟩ := D.ex
  exact pe_make M F (hr.mono hk) hg hm hb .nil hx ha hdb (st_of h1) (np_of h2)
theorem qex_make (D : Md X.prog X.w X.K X.mg X.base k x ps C sp) (hr : Room j X.A) (hg : Gl X x) (ha : PA X.nox (e :: es) t) (hk : k + 1 ≤ j := by decide) (h1 : notStar e = true := by rfl) (h2 : es.all notStar = true := by rfl)
    (hdb : (x == ("__debug__" : Str)) = false := by decide) : PEX X (.Call (.Name x p) (e :: es) [] pos) (tMakeX C sp [] t) := by
  obtain ⟨f, fd, M, F, hm, hb⟩ := D.ex
  exact pex_make M F (hr.mono hk) hg hm hb .nil ha hdb (st_of h1) (np_of h2)
end
end L2

set_option Elab.async false
set_option linter.all false
set_option maxRecDepth 100000
namespace L2
open PySem PySem.Spec PyProof.Rows
/-! ## The judgements as sealed boxes: nothing looks into them when a term of rules is read -/
structure RE (X : Cx) (e : Expr) (t : TE) : Prop where ok : PE X e t
structure RT (X : Cx) (e : Expr) (t : TT) : Prop where ok : PT X e t
structure RB (X : Cx) (e : Expr) (t : TT) : Prop where ok : PW X e t
structure RA (X : Cx) (es : List Expr) (t : TA) : Prop where ok : PA X es t
structure RS (X : Cx) (st : Stmt) (t : TS) : Prop where ok : PS X st t
structure RSs (X : Cx) (st : List Stmt) (t : TS) : Prop where ok : PSs X st t
structure RI (X : Cx) (tg iter : Expr) (t : TI) : Prop where ok : PI X tg iter t
structure RG (X : Cx) (tg : Expr) (t : TG) : Prop where ok : PG X tg t
structure RGs (X : Cx) (ts : List Expr) (t : TGs) : Prop where ok : PGs X ts t
structure RO (X : Cx) (e : Option Expr) (t : TO) : Prop where ok : PO X e t
structure RIf (X : Cx) (ifs : List Expr) (t : TT) : Prop where ok : PIfs X ifs t
structure REX (X : Cx) (e : Expr) (t : TEX) : Prop where ok : PEX X e t
structure RSX (X : Cx) (st : List Stmt) (t : TSX) : Prop where ok : PSX X st t
structure RH (X : Cx) (hs : List ExceptHandler) (th : Addr → TS) : Prop where ok : PH X hs th

def notComp : Expr → Bool
  | .ListComp _ _ _ _ => false
  | .SetComp _ _ _ _ => false
  | .DictComp _ _ _ _ _ => false
  | _ => true
theorem sw_of {e : Expr} {t : Option Expr} {n : Nat} {env : Env} (h : notComp e = true) : swapsWith e t n env = pure false := by
  cases e <;> first | rfl | cases h
def plainT : Expr → Bool
  | .Call _ _ _ _ => true
  | .Name _ _ => true
  | .Constant _ _ _ => true
  | .Attribute _ _ _ => true
  | .Subscript _ _ _ => true
  | _ => false
theorem pl_of {e : Expr} {env : Env} (h : plainT e = true) : ∀ whole, isTrue e env whole = (do let v ← whole; standAt e.pos; holding [v] (truthy v)) := by
  intro whole
  cases e <;> first | rfl | cases h
def noSlice : Expr → Bool
  | .Name _ _ => true
  | .Constant _ _ _ => true
  | .BinOp _ _ _ _ => true
  | .UnaryOp _ _ _ => true
  | .Call _ _ _ _ => true
  | .Subscript _ _ _ => true
  | .Attribute _ _ _ => true
  | _ => false
theorem ix_of {b : Expr} (h : noSlice b = true) : PlainIx b := by
  intro o i
  cases b <;> first | rfl | cases h

section
variable {X : Cx} {a b c e o : Expr} {es rest : List Expr} {ta tb tc te to : TE} {t : TA} {tA tB' : TT} {pos p : Pos} {i : Nat} {x : Str}
theorem rv (i : Nat) (hN : X.N[i]? = some x := by rfl) (hv : Vis X.env.scope x := by first | exact Or.inl rfl | exact Or.inr (Or.inl rfl) | exact Or.inr (Or.inr rfl)) (hd : (x == ("__debug__" : Str)) = false := by decide)
    (hcd : (x == ("__classdict__" : Str)) = false := by decide) : RE X (.Name x pos) (tVar i) := ⟨pe_var hN hv hd hcd⟩
theorem r_int {i j pos} : RE X (.Constant (.int i) j pos) (tC (.int i)) := ⟨pe_int⟩
theorem r_bl {b j pos} : RE X (.Constant (.bool b) j pos) (tC (.bl b)) := ⟨pe_bl⟩
theorem r_non {j pos} : RE X (.Constant .none j pos) (tC .non) := ⟨pe_non⟩
theorem r_str {z j pos} : RE X (.Constant (.str z) j pos) (tC (.str z)) := ⟨pe_str⟩
theorem r_gint {i : Int} (h : ∃ t, X.mg x = some (.int i t)) (hg : Gl X x) (hd : (x == ("__debug__" : Str)) = false := by decide) : RE X (.Name x pos) (tC (.int i)) := ⟨pe_gint h hg hd⟩
theorem r_gstr {z : Str} (h : ∃ t, X.mg x = some (.str z t)) (hg : Gl X x) (hd : (x == ("__debug__" : Str)) = false := by decide) : RE X (.Name x pos) (tC (.str z)) := ⟨pe_gstr h hg hd⟩
theorem r_cls {C : Addr} (hm : X.mg x = some (.ref C)) (hg : Gl X x) (hd : (x == ("__debug__" : Str)) = false := by decide) : RE X (.Name x pos) (tC (.ref C)) := ⟨pe_glob hg hm rfl hd⟩
theorem r_ty {n : String} (hm : X.mg x = none) (hg : Gl X x) (hv : bootBuiltins x = some (.type n)) (hn : x ≠ "__name__" := by decide) (hd : (x == ("__debug__" : Str)) = false := by decide) : RE X (.Name x pos) (tC (.ty n)) := ⟨pe_bltn hg hm hv rfl hn hd⟩
theorem r_op {op : Operator} {r : R2} (ho : OpR X (binaryOp op) r) (ha : RE X a ta) (hb : RE X b tb) : RE X (.BinOp a op b pos) (tOp r ta tb) := ⟨pe_op ho ha.ok hb.ok⟩
theorem r_un {op : UnaryOp} {r : V → Hp → VK → Prop} (ho : UnR X (unaryOp op) r) (ha : RE X a ta) : RE X (.UnaryOp op a pos) (tUn r ta) := ⟨pe_un ho ha.ok⟩
theorem r_cmp {op : CmpOp} {r : R2} (ho : OpR X (compareOp op) r) (ha : RE X a ta) (hb : RE X b tb) (hm : behindInMarks op b = false) : RE X (.Compare a [op] [b] pos) (tOp r ta tb) := ⟨pe_cmpR ho ha.ok hb.ok hm⟩
theorem rt_cmp {op : CmpOp} {r : R2} (ho : OpR X (compareOp op) r) (ha : RE X a ta) (hb : RE X b tb) (hm : behindInMarks op b = false) : RT X (.Compare a [op] [b] pos) (tTest (tOp r ta tb)) := ⟨pt_cmpR ho ha.ok hb.ok hm⟩
theorem r_chain {op op' : CmpOp} {r r' : R2} (ho : OpR X (compareOp op) r) (ho' : OpR X (compareOp op') r') (ha : RE X a ta) (hb : RE X b tb) (hc : RE X c tc)
    (hm : lastMarks [op, op'] [b, c] = false := by with_unfolding_all rfl) : RE X (.Compare a [op, op'] [b, c] pos) (tChain r r' ta tb tc) := ⟨pe_chain ho ho' ha.ok hb.ok hc.ok hm⟩
theorem rt_chain {op op' : CmpOp} {r r' : R2} (ho : OpR X (compareOp op) r) (ho' : OpR X (compareOp op') r') (ha : RE X a ta) (hb : RE X b tb) (hc : RE X c tc)
    (hm : lastMarks [op, op'] [b, c] = false := by with_unfolding_all rfl) : RT X (.Compare a [op, op'] [b, c] pos) (tTest (tChain r r' ta tb tc)) := ⟨pt_chain ho ho' ha.ok hb.ok hc.ok hm⟩
theorem rt_val (h : RE X e te) (he : plainT e = true := by rfl) : RT X e (L2.tB te) := ⟨pt_val h.ok (pl_of he)⟩
theorem rb_and1 (ha : RT X a tA) : RB X (.BoolOp .And [a] pos) tA := ⟨pw_and1 ha.ok⟩
theorem rb_or1 (ha : RT X a tA) : RB X (.BoolOp .Or [a] pos) tA := ⟨pw_or1 ha.ok⟩
theorem rb_and (ha : RT X a tA) (hb : RB X (.BoolOp .And (b :: rest) pos) tB') : RB X (.BoolOp .And (a :: b :: rest) pos) (tAnd tA tB') := ⟨pw_and ha.ok hb.ok⟩
theorem rb_or (ha : RT X a tA) (hb : RB X (.BoolOp .Or (b :: rest) pos) tB') : RB X (.BoolOp .Or (a :: b :: rest) pos) (tOr tA tB') := ⟨pw_or ha.ok hb.ok⟩
theorem rt_b (h : RB X e tA) : RT X e tA := ⟨h.ok.pt⟩
theorem rt_not (ha : RT X a tA) : RT X (.UnaryOp .Not a pos) (tNot tA) := ⟨pt_not ha.ok⟩
theorem r_one {op} {t : TE} (h : RE X a t) : RE X (.BoolOp op [a] pos) t := ⟨pe_one h.ok⟩
theorem r_and (ha : RE X a ta) (hb : RE X (.BoolOp .And (b :: rest) pos) tb) : RE X (.BoolOp .And (a :: b :: rest) pos) (tAndV ta tb) := ⟨pe_and ha.ok hb.ok⟩
theorem r_or (ha : RE X a ta) (hb : RE X (.BoolOp .Or (b :: rest) pos) tb) : RE X (.BoolOp .Or (a :: b :: rest) pos) (tOrV ta tb) := ⟨pe_or ha.ok hb.ok⟩
theorem r_not (ha : RE X a ta) : RE X (.UnaryOp .Not a pos) (tNotV ta) := ⟨pe_not ha.ok⟩
theorem r_ifExp (hc : RT X c tA) (ha : RE X a ta) (hb : RE X b tb) : RE X (.IfExp c a b pos) (tIf tA ta tb) := ⟨pe_ifExp hc.ok ha.ok hb.ok⟩
theorem ra_nil : RA X [] tNil := ⟨pa_nil⟩
theorem ra_cons (ha : RE X e te) (hr : RA X es t) (hs : notStar e = true := by rfl) : RA X (e :: es) (tCons te t) := ⟨pa_cons ha.ok hr.ok (st_of hs)⟩
theorem r_tup {x1} (h : RA X es t) : RE X (.Tuple es x1 pos) (tTup t) := ⟨pe_tup h.ok⟩
theorem r_lst (h : RA X es t) : RE X (.List es pos) (tLst t) := ⟨pe_lst h.ok⟩
theorem r_ix {r : R2} (hr : IxR X r) (ha : RE X a ta) (hb : RE X b tb) (hs : noSlice b = true := by rfl) : RE X (.Subscript a b pos) (tOp r ta tb) := ⟨pe_ix hr ha.ok hb.ok (ix_of hs)⟩
theorem ro_none : RO X none tNoPart := ⟨po_none⟩
theorem ro_some (h : RE X e te) : RO X (some e) (tPart te) := ⟨po_some h.ok⟩
theorem r_slice {lo hi : Option Expr} {tl th : TO} {p2 : Pos} {r : V → Option Int → Option Int → Hp → VK → Prop} (hr : SlR X r) (he : RE X e te) (hl : RO X lo tl) (hu : RO X hi th) : RE X (.Subscript e (.Slice lo hi none p2) pos) (tSl r te tl th) := ⟨pe_slice hr he.ok hl.ok hu.ok⟩
theorem r_fld {f : Str} (he : RE X e ta) (hb : attributeBase e f X.env (eval e X.env) = eval e X.env := by rfl) : RE X (.Attribute e f pos) (tFld X.K ta f) := ⟨pe_fld he.ok hb⟩
variable {k j : Nat} {ps : List Str} {sp : Sp} {E : XK} {id T : String} {r : List V → Hp → VK → Prop} {C : Addr}
theorem r_def (D : Df X.prog X.w X.K X.mg X.base k x ps sp) (hr : Room j X.A) (hg : Gl X x) (hx : Passes (CXE X.prog X.w) X E) (ha : RA X (e :: es) t) (hk : k ≤ j := by decide) (h1 : notStar e = true := by rfl) (h2 : es.all notStar = true := by rfl)
    (hdb : (x == ("__debug__" : Str)) = false := by decide) : RE X (.Call (.Name x p) (e :: es) [] pos) (tCall sp [] E t) := ⟨qe_def D hr hg hx ha.ok hk h1 h2 hdb⟩
theorem rx_def (D : Df X.prog X.w X.K X.mg X.base k x ps sp) (hr : Room j X.A) (hg : Gl X x) (ha : RA X.nox (e :: es) t) (hk : k ≤ j := by decide) (h1 : notStar e = true := by rfl) (h2 : es.all notStar = true := by rfl)
    (hdb : (x == ("__debug__" : Str)) = false := by decide) : REX X (.Call (.Name x p) (e :: es) [] pos) (tCallX sp [] t) := ⟨qex_def D hr hg ha.ok hk h1 h2 hdb⟩
theorem r_make (D : Md X.prog X.w X.K X.mg X.base k x ps C sp) (hr : Room j X.A) (hg : Gl X x) (hx : Passes (CXE X.prog X.w) X E) (ha : RA X (e :: es) t) (hk : k + 1 ≤ j := by decide) (h1 : notStar e = true := by rfl) (h2 : es.all notStar = true := by rfl)
    (hdb : (x == ("__debug__" : Str)) = false := by decide) : RE X (.Call (.Name x p) (e :: es) [] pos) (tMake C sp [] E t) := ⟨qe_make D hr hg hx ha.ok hk h1 h2 hdb⟩
theorem rx_make (D : Md X.prog X.w X.K X.mg X.base k x ps C sp) (hr : Room j X.A) (hg : Gl X x) (ha : RA X.nox (e :: es) t) (hk : k + 1 ≤ j := by decide) (h1 : notStar e = true := by rfl) (h2 : es.all notStar = true := by rfl)
    (hdb : (x == ("__debug__" : Str)) = false := by decide) : REX X (.Call (.Name x p) (e :: es) [] pos) (tMakeX C sp [] t) := ⟨qex_make D hr hg ha.ok hk h1 h2 hdb⟩
theorem r_callB (hc : CallR X (.builtin id) r) (hg : Gl X x) (hm : X.mg x = none) (hv : bootBuiltins x = some (.builtin id)) (ha : RA X (e :: es) t) (h1 : notStar e = true := by rfl) (h2 : es.all notStar = true := by rfl) (hn : x ≠ "__name__" := by decide)
    (hdb : (x == ("__debug__" : Str)) = false := by decide) : RE X (.Call (.Name x p) (e :: es) [] pos) (tCB r t) := ⟨qe_callB hc hg hm hv ha.ok h1 h2 hn hdb⟩
theorem r_callTy (hc : CallR X (.type T) r) (hg : Gl X x) (hm : X.mg x = none) (hv : bootBuiltins x = some (.type T)) (ha : RA X (e :: es) t) (h1 : notStar e = true := by rfl) (h2 : es.all notStar = true := by rfl) (hn : x ≠ "__name__" := by decide)
    (hdb : (x == ("__debug__" : Str)) = false := by decide) : RE X (.Call (.Name x p) (e :: es) [] pos) (tCB r t) := ⟨qe_callTy hc hg hm hv ha.ok h1 h2 hn hdb⟩
theorem few_of {env : Env} {cpos : Pos} : ∀ {es : List Expr}, es.all notStar = true → (backTo cpos (starEach es env)).all (fun x => !x.1) = true
  | [], _ => rfl
  | e :: es, h => by
    rw [List.all_cons, Bool.and_eq_true] at h
    rw [st_of h.1]
    show ((!false) && (backTo cpos (starEach es env)).all (fun x => !x.1)) = true
    rw [few_of h.2]; rfl
variable {name : Str} {apos cpos : Pos} {rm : V → List V → Hp → VK → Prop}
theorem r_bm (pa : PlainAttrs T) (slot : Slot T name id) (hty : typeOf (.builtin id) = pure (.type "method_descriptor")) (hm : MtR X id rm) (ho : RE X o to) (ha : RA X (e :: es) t) (h1 : (e :: es).all notStar = true := by rfl)
    (hbase : attributeBase o name X.env (eval o X.env) = eval o X.env := by rfl) (hlen : decide ((e :: es).length < 30) = true := by rfl) (hline : (apos.endLine == cpos.line) = true := by rfl) : RE X (.Call (.Attribute o name apos) (e :: es) [] cpos) (tBM X.K T rm to t) := by
  have h1' := h1
  rw [List.all_cons, Bool.and_eq_true] at h1'
  refine ⟨pe_bm pa slot hty hm ho.ok ha.ok hbase ?_ hline (st_of h1'.1) (np_of h1'.2)⟩
  rw [few_of h1]
  have : decide ((e :: es).length + ([] : List Keyword).length + (if ([] : List Keyword).isEmpty then 0 else 1) < 30) = true := by simpa using hlen
  rw [this]; rfl
theorem r_bm0 (pa : PlainAttrs T) (slot : Slot T name id) (hty : typeOf (.builtin id) = pure (.type "method_descriptor")) (hm : MtR X id rm) (ho : RE X o to)
    (hbase : attributeBase o name X.env (eval o X.env) = eval o X.env := by rfl) (hline : (apos.endLine == cpos.line) = true := by rfl) : RE X (.Call (.Attribute o name apos) [] [] cpos) (tBM0 X.K T rm to) := ⟨pe_bm0 pa slot hty hm ho.ok hbase hline⟩
end

section
variable {X : Cx} {tg l : Expr} {te : TE} {ta : TA} {p pos : Pos}
theorem ri_list (hl : RE X l te) : RI X tg l (iList X.K te) := ⟨pi_list hl.ok⟩
theorem ri_tup (hl : RE X l te) : RI X tg l (iTup X.K te) := ⟨pi_tup hl.ok⟩
theorem ri_str (hl : RE X l te) : RI X tg l (iStr te) := ⟨pi_str hl.ok⟩
theorem ri_range1 {a : Expr} (hg : Gl X "range") (hm : X.mg "range" = none) (ha : RA X [a] ta) (hs : notStar a = true := by rfl) : RI X tg (.Call (.Name "range" p) [a] [] pos) (iRng1 ta) := ⟨pi_range1 hg hm ha.ok (st_of hs)⟩
theorem ri_range2 {a b : Expr} (hg : Gl X "range") (hm : X.mg "range" = none) (ha : RA X [a, b] ta) (hs : notStar a = true := by rfl) (hs2 : notStar b = true := by rfl) : RI X tg (.Call (.Name "range" p) [a, b] [] pos) (iRng2 ta) :=
  ⟨pi_range2 hg hm ha.ok (by rw [st_of hs, st_of hs2]; rfl) (st_of hs2)⟩
theorem rif_nil : RIf X [] tYes := ⟨pif_nil⟩
theorem rif_one {c : Expr} {t : TT} (h : RT X c t) : RIf X [c] t := ⟨pif_one h.ok⟩
theorem r_comp {x : Str} {px : Pos} {scope : Scope} {elt iter : Expr} {ifs : List Expr} {wi : TI} {tc : TT} (ok : compOk scope X.env.scope X.N x = true) (hc : X.calm = true) (hi : RI X (.Name x px) iter wi)
    (hif : ∀ s H ex, RIf (cxComp X x scope s H ex) ifs tc) (he : ∀ s H ex, RE (cxComp X x scope s H ex) elt te) (hs : ∀ v, foldedSetIterable iter X.env v = pure v := by intro _; rfl) :
    RE X (.ListComp elt [⟨.Name x px, iter, ifs, 0⟩] scope pos) (tComp wi tc te) := ⟨pe_comp ok hc hi.ok (fun s H ex => (hif s H ex).ok) (fun s H ex => (he s H ex).ok) hs⟩
end

section
variable {X : Cx} {st : Stmt} {rest body : List Stmt} {t u tb : TS} {e tg iter : Expr} {te : TE} {pos : Pos} {i : Nat} {x : Str}
theorem rss_nil : RSs X [] tNext := ⟨pss_nil⟩
theorem rss_cons (h1 : RS X st t) (h2 : RSs X rest u) : RSs X (st :: rest) (tSeq t u) := ⟨pss_cons h1.ok h2.ok⟩
theorem rss_one (h1 : RS X st t) : RSs X [st] t := ⟨pss_one h1.ok⟩
theorem rs_pass : RS X (.Pass pos) tNext := ⟨ps_pass⟩
theorem rs_break : RS X (.Break pos) tBreak := ⟨ps_break⟩
theorem rs_continue : RS X (.Continue pos) tCont := ⟨ps_continue⟩
theorem rs_expr (he : RE X e te) (hs : notComp e = true := by rfl) : RS X (.Expr e pos) (tDrop te) := ⟨ps_expr he.ok (sw_of hs)⟩
theorem rs_ret (he : RE X e te) : RS X (.Return (some e) pos) (tRet te) := ⟨ps_ret he.ok⟩
theorem rs_retN : RS X (.Return none pos) tRetN := ⟨ps_retN⟩
theorem rs_if {c : Expr} {a b : List Stmt} {tc : TT} (hc : RT X c tc) (ha : RSs X a t) (hb : RSs X b u) : RS X (.If c a b pos) (tIfS tc t u) := ⟨ps_if hc.ok ha.ok hb.ok⟩
theorem rg_name (hN : X.N.Nodup) (hi : X.N[i]? = some x) (hx : Loc X.env.scope x) (hf : X.fn x = true ∨ X.env.scope.names.lookup x = some .local := by first | exact .inl rfl | exact .inr rfl | assumption) : RG X (.Name x pos) (gName i) := ⟨pg_name hN hi hx hf⟩
theorem rgs_nil : RGs X [] gNil := ⟨pgs_nil⟩
def noStarT : Expr → Bool
  | .Name _ _ => true
  | .Subscript _ _ _ => true
  | _ => false
theorem as_of {es : List Expr} {env : Env} (h : noStarT e = true) : (assignEach (e :: es) env).map (·.2) = assign e env :: (assignEach es env).map (·.2) := by
  cases e <;> first | rfl | cases h
theorem rgs_cons {es : List Expr} {t : TG} {u : TGs} (h1 : RG X e t) (h2 : RGs X es u) (hs : noStarT e = true := by rfl) : RGs X (e :: es) (gCons t u) := ⟨pgs_cons h1.ok h2.ok (as_of hs)⟩
theorem rg_tup {es : List Expr} {k : Nat} {t : TGs} {n : Nat} (hc : X.calm = true) (h : RGs X es t) (hn : (assignEach es X.env).length = n := by rfl) (hst : (assignEach es X.env).findIdx? (·.1) = none := by rfl) : RG X (.Tuple es k pos) (gTup X.K n t) := ⟨pg_tup hc h.ok hn hst⟩
theorem rg_sub {o i : Expr} {to ti : TE} {t : TSet} (ho : RE X o to) (hi : RE X i ti) (hs : PSet X t) (ha : ∀ v, assign (.Subscript o i pos) X.env v = (do
      let ov ← holding [v] (eval o X.env)
      let iv ← holding [v, ov] (eval i X.env)
      standAt pos
      holding [v, ov, iv] (setItem ov iv v)
      release [v, ov, iv] []) := by intro _; rfl) : RG X (.Subscript o i pos) (gSub to ti t) := ⟨pg_sub ho.ok hi.ok hs ha⟩
theorem rs_asg {g : TG} (he : RE X e te) (hg : RG X tg g) (hs : swapsWithSole [tg] e pos.line X.env = pure false := by rfl) (hw : swappedStores [tg] e X.env = pure none := by rfl) (h1 : (assignEach [tg] X.env).map (·.2) = [assign tg X.env] := by rfl) : RS X (.Assign [tg] e pos) (tAsg te g) := ⟨ps_asg he.ok hg.ok hs hw h1⟩
theorem rs_set {pos' : Pos} (hN : X.N.Nodup) (hi : X.N[i]? = some x) (hx : Loc X.env.scope x) (he : RE X e te) (hs : notComp e = true := by rfl) (hf : X.fn x = true ∨ X.env.scope.names.lookup x = some .local := by first | exact .inl rfl | exact .inr rfl | assumption) :
    RS X (.Assign [.Name x pos'] e pos) (tAsg te (gName i)) := ⟨ps_set hN hi hx he.ok (sw_of hs) hf⟩
theorem rs_par {j : Nat} {y : Str} {a b : Expr} {ta : TA} {px py pt : Pos} {kt k2 pt2} (hc : X.calm = true) (hN : X.N.Nodup) (hi : X.N[i]? = some x) (hj : X.N[j]? = some y) (hij : i ≠ j)
    (hx : X.env.scope.names.lookup x = some .local) (hy : X.env.scope.names.lookup y = some .local) (ha : RA X [a, b] ta) (hw : swappedStores [.Tuple [.Name x px, .Name y py] kt pt] (.Tuple [a, b] k2 pt2) X.env = pure (some [x, y])) :
    RS X (.Assign [.Tuple [.Name x px, .Name y py] kt pt] (.Tuple [a, b] k2 pt2) pos) (tPar i j ta) := ⟨ps_par hc hN hi hj hij hx hy ha.ok hw⟩
theorem rs_for {wi : TI} {g : TG} (hp : PassesOwn (model X.prog X.w) X.A X.env X.xe) (hc : X.calm = true) (hi : RI X tg iter wi) (hg : RG X tg g) (hb : RSs X body tb) (hs : ∀ x, foldedSetIterable iter X.env x = pure x := by intro _; rfl) :
    RS X (.For tg iter body [] pos) (tFor wi g tb) := ⟨ps_for hp hc hi.ok hg.ok hb.ok hs⟩
theorem rs_while {c : Expr} {tc : TT} (hp : PassesOwn (model X.prog X.w) X.A X.env X.xe) (hc : RT X c tc) (hb : RSs X body tb) : RS X (.While c body [] pos) (tWhile tc tb) := ⟨ps_while hp hc.ok hb.ok⟩
theorem rs_fld {o value : Expr} {f : Str} {ta tv : TE} {pos' : Pos} (ha : RE X o ta) (hv : RE X value tv) (hs : notComp value = true := by rfl) : RS X (.Assign [.Attribute o f pos'] value pos) (sFld X.K ta tv f) := ⟨ps_fld ha.ok hv.ok (sw_of hs)⟩
theorem rs_comp {y : Str} {py px spos : Pos} {scope : Scope} {elt : Expr} {ifs : List Expr} {wi : TI} {tc : TT} (hN : X.N.Nodup) (hiy : X.N[i]? = some y) (hy : X.env.scope.names.lookup y = some .local)
    (ok : compOk scope X.env.scope X.N x = true) (hc : X.calm = true) (hi : RI X (.Name x px) iter wi) (hif : ∀ s H ex, RIf (cxComp X x scope s H ex) ifs tc) (he : ∀ s H ex, RE (cxComp X x scope s H ex) elt te)
    (hsw : swapsWith (.ListComp elt [⟨.Name x px, iter, ifs, 0⟩] scope pos) (some (.Name y py)) spos.line X.env = pure true := by rfl) (hs : ∀ v, foldedSetIterable iter X.env v = pure v := by intro _; rfl) :
    RS X (.Assign [.Name y py] (.ListComp elt [⟨.Name x px, iter, ifs, 0⟩] scope pos) spos) (tCompS i wi tc te) := ⟨ps_comp hN hiy hy ok hc hi.ok (fun s H ex => (hif s H ex).ok) (fun s H ex => (he s H ex).ok) hsw hs⟩
/-- .. where the name is a cell, or the block's own name -/
theorem rs_compC {y : Str} {py px spos : Pos} {scope : Scope} {elt : Expr} {ifs : List Expr} {wi : TI} {tc : TT} (hN : X.N.Nodup) (hiy : X.N[i]? = some y) (hy : Loc X.env.scope y)
    (he : RE X (.ListComp elt [⟨.Name x px, iter, ifs, 0⟩] scope pos) te) (hsw : swapsWith (.ListComp elt [⟨.Name x px, iter, ifs, 0⟩] scope pos) (some (.Name y py)) spos.line X.env = pure false := by rfl)
    (hf : X.fn y = true ∨ X.env.scope.names.lookup y = some .local := by first | exact .inl rfl | exact .inr rfl | assumption) :
    RS X (.Assign [.Name y py] (.ListComp elt [⟨.Name x px, iter, ifs, 0⟩] scope pos) spos) (tAsg te (gName i)) := ⟨ps_set hN hiy hy he.ok hsw hf⟩
theorem RS.nox (h : RS X.nox st t) : RS X st t := ⟨PS.nox h.ok⟩
theorem RT.nox {tt : TT} (h : RT X.nox e tt) : RT X e tt := ⟨PT.nox h.ok⟩
theorem rsx_ret {te : TEX} (he : REX X e te) : RSX X [.Return (some e) pos] (tRetX te) := ⟨psx_ret he.ok⟩
theorem rsx_set {te : TEX} {pos' : Pos} (hN : X.N.Nodup) (hi : X.N[i]? = some x) (hy : Loc X.env.scope x) (he : REX X e te) (hs : notComp e = true := by rfl)
    (hf : X.fn x = true ∨ X.env.scope.names.lookup x = some .local := by first | exact .inl rfl | exact .inr rfl | assumption) : RSX X [.Assign [.Name x pos'] e pos] (tSetX te i) := ⟨psx_set hN hi hy he.ok (sw_of hs) hf⟩
theorem rh_nil : RH X [] (fun _ _ _ _ => False) := ⟨ph_nil⟩
theorem rh_cons {n : Str} {np hpos : Pos} {b₀ : Stmt} {suite : List Stmt} {hrest : List ExceptHandler} {C' : Addr} {ts : TS} {th : Addr → TS} (hex : X.ex = []) (hN : X.N.Nodup) (hi : X.N[i]? = some n) (hn : X.env.scope.names.lookup n = some .local)
    (hg : Gl X x) (hm : X.mg x = some (.ref C')) (c' : ErrCls X.K C') (hs : ∀ ea, RSs (cxHand X ea) (b₀ :: suite) ts) (hr : RH X hrest th) (hd : (x == ("__debug__" : Str)) = false := by decide) :
    RH X (.ExceptHandler (some (.Name x np)) (some n) (b₀ :: suite) hpos :: hrest) (thCons X.K C' i ts th) := ⟨ph_cons hex hN hi hn hg hm c' (fun ea => (hs ea).ok) hr.ok hd⟩
theorem rs_try {h₀ : ExceptHandler} {hs : List ExceptHandler} {tb : TSX} {th : Addr → TS} (hst : X.stack = X.env :: X.outer) (hfr : X.env.frame = some X.env.locals) (hb : RSX X body tb) (hh : RH X (h₀ :: hs) th) :
    RS X (.Try body (h₀ :: hs) [] [] pos) (tTry tb th) := ⟨ps_try hst hfr hb.ok hh.ok⟩
end
section
variable {P : Program} {w : World} {K : PySem.W.Frag} {mg : Str → Option Value} {base : Heap} {N : List Str} {qual : Str} {scope : Scope} {f : Addr} {cd : Value} {A : Around} {outer : List Env} {s0 : Shared} {H0 : Hp} {E : XK}
theorem rs_raise {x : Str} {np cpos pos : Pos} {e₀ : Expr} {rest : List Expr} {t : TA} {C : Addr} (c : ErrCls K C) (hg : Gl (cxOf (CXE P w) P w K mg base N qual scope f cd A outer s0 H0 E) x) (hm : mg x = some (.ref C)) (hh : A.handled = none)
    (ha : RA (cxOf (CXE P w) P w K mg base N qual scope f cd A outer s0 H0 E) (e₀ :: rest) t) (h1 : notStar e₀ = true := by rfl) (h2 : rest.all notStar = true := by rfl) (hd : (x == ("__debug__" : Str)) = false := by decide) :
    RS (cxOf (CXE P w) P w K mg base N qual scope f cd A outer s0 H0 E) (.Raise (some (.Call (.Name x np) (e₀ :: rest) [] cpos)) none pos) (tRaise t C E) := ⟨ps_raise c hg hm hh ha.ok hd (st_of h1) (np_of h2)⟩
theorem Fun.rokE {x qual : Str} {st : Stmt} {f : Addr} {fd : FuncData} {N ps : List Str} {k : Nat} {sp : Sp} (F : Fun K x qual st f fd) (S : FnScope N ps (defScope st)) (len : ∀ vs H Q E, sp vs H Q E → vs.length = ps.length)
    (hbody : ∀ (cdv : Value) (A : Around) (outer : List Env) (s : Shared) (H : Hp) (vs : List V) (Q : VK) (E : XK), Room k (A.deeper (envOfC qual (defScope st) s.heap.objs.size f cdv)) → sp vs H Q E →
      ∃ t, RSs (cxOf (CXE P w) P w K mg base N qual (defScope st) f cdv A outer s H E) (defBody st) t ∧ t { nx := fun _ H' => Q .non H', rt := Q } (start N vs) H) : FnOk P w K mg base (CXE P w) (k + 1) f fd ps sp :=
  F.okE S len fun cdv A outer s H vs Q E hr hsp => let ⟨t, h, q⟩ := hbody cdv A outer s H vs Q E hr hsp; ⟨t, h.ok, q⟩
theorem Fun.rok {x qual : Str} {st : Stmt} {f : Addr} {fd : FuncData} {N ps : List Str} {k : Nat} {sp : Sp} (F : Fun K x qual st f fd) (S : FnScope N ps (defScope st)) (len : ∀ vs H Q E, sp vs H Q E → vs.length = ps.length)
    (hbody : ∀ (cdv : Value) (A : Around) (outer : List Env) (s : Shared) (H : Hp) (vs : List V) (Q : VK) (E : XK), Room k (A.deeper (envOfC qual (defScope st) s.heap.objs.size f cdv)) → sp vs H Q E →
      ∃ t, RSs (cxOf (CXE P w) P w K mg base N qual (defScope st) f cdv A outer s H E).nox (defBody st) t ∧ t { nx := fun _ H' => Q .non H', rt := Q } (start N vs) H) : FnOk P w K mg base (CXE P w) (k + 1) f fd ps sp :=
  F.ok0 S len fun cdv A outer s H vs Q E hr hsp => let ⟨t, h, q⟩ := hbody cdv A outer s H vs Q E hr hsp; ⟨t, h.ok, q⟩
end
end L2

set_option Elab.async false
set_option linter.all false
set_option maxRecDepth 100000
namespace L2
open PySem PySem.Spec PyProof.Rows
/-! ## Data in a heap that grows -/
mutual
theorem Den.mono {K : PySem.W.Frag} {H H' : Hp} (s : Same H H') : ∀ {v : V} {d : Dt}, Den K H v d → Den K H' v d
  | _, _, .non => .non
  | _, _, .bl b => .bl b
  | _, _, .int i => .int i
  | _, _, .str x => .str x
  | _, _, .tup h hs => .tup (s _ _ h) (Dens.mono s hs)
  | _, _, .lst h hs => .lst (s.seq h) (Dens.mono s hs)
theorem Dens.mono {K : PySem.W.Frag} {H H' : Hp} (s : Same H H') : ∀ {vs : List V} {ds : List Dt}, Dens K H vs ds → Dens K H' vs ds
  | _, _, .nil => .nil
  | _, _, .cons h t => .cons (Den.mono s h) (Dens.mono s t)
end
theorem Dens.snoc {K : PySem.W.Frag} {H : Hp} {vs : List V} {ds : List Dt} {v : V} {d : Dt} (h : Dens K H vs ds) (h1 : Den K H v d) : Dens K H (vs ++ [v]) (ds ++ [d]) := h.append (.cons h1 .nil)
theorem Dens.ints {K : PySem.W.Frag} {H : Hp} : ∀ ns : List Int, Dens K H (ns.map V.int) (ns.map Dt.int)
  | [] => .nil
  | n :: ns => .cons (.int n) (Dens.ints ns)
theorem Dens.strs {K : PySem.W.Frag} {H : Hp} : ∀ zs : List Str, Dens K H (zs.map V.str) (zs.map Dt.str)
  | [] => .nil
  | z :: zs => .cons (.str z) (Dens.strs zs)
theorem Dens.bls {K : PySem.W.Frag} {H : Hp} : ∀ bs : List Bool, Dens K H (bs.map V.bl) (bs.map Dt.bl)
  | [] => .nil
  | b :: bs => .cons (.bl b) (Dens.bls bs)
theorem Dens.of_ints {K : PySem.W.Frag} {H : Hp} : ∀ {ns : List Int} {vs : List V}, Dens K H vs (ns.map Dt.int) → vs = ns.map V.int
  | [], _, .nil => rfl
  | n :: ns, _, .cons h t => by cases h; rw [Dens.of_ints t]; rfl
theorem Dens.of_strs {K : PySem.W.Frag} {H : Hp} : ∀ {zs : List Str} {vs : List V}, Dens K H vs (zs.map Dt.str) → vs = zs.map V.str
  | [], _, .nil => rfl
  | n :: ns, _, .cons h t => by cases h; rw [Dens.of_strs t]; rfl
theorem Dens.of_bls {K : PySem.W.Frag} {H : Hp} : ∀ {bs : List Bool} {vs : List V}, Dens K H vs (bs.map Dt.bl) → vs = bs.map V.bl
  | [], _, .nil => rfl
  | n :: ns, _, .cons h t => by cases h; rw [Dens.of_bls t]; rfl

/-- J walks over vs, whatever else the heap holds -/
structure ItOver (J : It) (H : Hp) (vs : List V) : Prop where
  go : ∀ H' i, Same H H' → i < vs.length → J.go i H'
  yld : ∀ H' i v H'', Same H H' → i < vs.length → J.yld i H' v H'' → vs[i]? = some v ∧ H'' = H'
  stop : ∀ H', Same H H' → J.stop vs.length H'
theorem over_list {K : PySem.W.Frag} {H : Hp} {a : Addr} {vs : List V} (h : SqL K H a vs) : ItOver (Itl K a) H vs :=
  ⟨fun H' i s hi => ⟨vs, vs[i], s.seq h, by simp [hi]⟩, fun H' i v H'' s hi y => ⟨y.2 vs (s.seq h), y.1⟩, fun H' s => ⟨vs, s.seq h, Nat.le_refl _⟩⟩
theorem over_tup {K : PySem.W.Frag} {H : Hp} {a : Addr} {vs : List V} (h : SqT K H a vs) : ItOver (Itt K a) H vs :=
  ⟨fun H' i s hi => ⟨vs, vs[i], s.tup h, by simp [hi]⟩, fun H' i v H'' s hi y => ⟨y.2 vs (s.tup h), y.1⟩, fun H' s => ⟨vs, s.tup h, Nat.le_refl _⟩⟩
theorem over_range {H : Hp} (lo : Int) (n : Nat) : ItOver (Itr lo n) H (((List.range n).map fun i : Nat => lo + (i : Int)).map V.int) := by
  have hl : (((List.range n).map fun i : Nat => lo + (i : Int)).map V.int).length = n := by simp
  refine ⟨fun H' i _ hi => ?_, fun H' i v H'' _ hi y => ⟨?_, y.1⟩, fun H' _ => ?_⟩
  · rw [hl] at hi; exact hi
  · rw [hl] at hi
    rw [y.2]
    simp [hi]
  · rw [hl]; exact Nat.le_refl _
theorem over_str {H : Hp} (z : Str) : ItOver (Its z) H ((z.cps.toList.map fun c => (⟨#[c]⟩ : Str)).map V.str) := by
  have hl : ((z.cps.toList.map fun c => (⟨#[c]⟩ : Str)).map V.str).length = z.cps.size := by simp
  refine ⟨fun H' i _ hi => ?_, fun H' i v H'' _ hi y => ?_, fun H' _ => ?_⟩
  · rw [hl] at hi; exact hi
  · rw [hl] at hi
    obtain ⟨e, c, ec, y⟩ := y
    have : z.cps.toList[i]? = some c := by simpa using ec
    exact ⟨by rw [y]; simp [this], e⟩
  · rw [hl]; exact Nat.le_refl _

/-- a comprehension, by what its test and its element say of each thing that is walked -/
theorem comp_den {α : Type} {K : PySem.W.Frag} {J : It} {H : Hp} {vs : List V} {xs : List α} {enc : α → Dt} {tc : TT} {te : TE} {σ : St} {fin : List V → Hp → Prop} (hJ : ItOver J H vs) (hx : Dens K H vs (xs.map enc)) (hn : xs.length ≤ sizeLine) (p : α → Bool) (f : α → Dt)
    (ht : ∀ a ∈ xs, ∀ v H', Same H H' → Den K H' v (enc a) → ∀ G : Bool → Hp → Prop, (∀ H'', Same H' H'' → G (p a) H'') → tc (some v :: σ) H' G)
    (hf : ∀ a ∈ xs, p a = true → ∀ v H', Same H H' → Den K H' v (enc a) → ∀ G : VK, (∀ y H'', Same H' H'' → Den K H'' y (f a) → G y H'') → te (some v :: σ) H' G)
    (hd : ∀ ys H', Same H H' → Dens K H' ys ((xs.filter p).map f) → fin ys H') : ∃ W : Nat → Nat → List V → Hp → Prop, (∃ m, W 0 m [] H) ∧ CompW J tc te σ fin W := by
  have hlv : vs.length = xs.length := by rw [hx.length, List.length_map]
  refine comp_by (n := vs.length) (item := fun i => vs.getD i .non) (fun i ys H' => Same H H' ∧ Dens K H' ys (((xs.take i).filter p).map f)) (by rw [hlv]; exact hn) (fun i ys H' hi r => hJ.go H' i r.1 hi) (fun i ys H' v H'' hi r y => ?_) (fun ys H' r => hJ.stop H' r.1)
    (fun i ys H' hi r => ?_) ⟨Same.refl _, .nil⟩ (fun i ys H' hi r G hG => ?_) (fun ys H' r => ?_)
  · obtain ⟨e, e'⟩ := hJ.yld H' i v H'' r.1 hi y
    exact ⟨by rw [List.getD_eq_getElem?_getD, e]; rfl, e'⟩
  · rw [r.2.length, List.length_map]
    exact Nat.le_trans (List.length_filter_le _ _) (by rw [List.length_take]; exact Nat.min_le_left _ _)
  · obtain ⟨s1, D⟩ := r
    have hi' : i < xs.length := by omega
    have ev : vs[i]? = some (vs.getD i .non) := by simp [List.getD_eq_getElem?_getD, hi]
    obtain ⟨d, ed, dv⟩ := hx.get ev
    have ea : d = enc xs[i] := by
      rw [List.getElem?_map, List.getElem?_eq_getElem hi'] at ed
      exact (Option.some.inj ed).symm
    subst ea
    have tk : xs.take (i + 1) = xs.take i ++ [xs[i]] := by rw [List.take_succ, List.getElem?_eq_getElem hi']; rfl
    refine ht xs[i] (List.getElem_mem hi') _ H' s1 (dv.mono s1) _ fun H2 s2 => ?_
    cases hp : p xs[i] with
    | false =>
      refine iteF (hG _ _ ⟨s1.trans s2, ?_⟩)
      rw [tk, List.filter_append, show List.filter p [xs[i]] = [] by simp [hp], List.append_nil]
      exact D.mono s2
    | true =>
      refine iteT (hf xs[i] (List.getElem_mem hi') hp _ H2 (s1.trans s2) (dv.mono (s1.trans s2)) _ fun y H3 s3 dy => hG _ _ ⟨(s1.trans s2).trans s3, ?_⟩)
      rw [tk, List.filter_append, show List.filter p [xs[i]] = [xs[i]] by simp [hp], List.map_append]
      exact (D.mono (s2.trans s3)).append (.cons dy .nil)
  · rw [hlv, List.take_length] at r
    exact hd ys H' r.1 r.2
/-- .. without a test -/
theorem comp_map {α : Type} {K : PySem.W.Frag} {J : It} {H : Hp} {vs : List V} {xs : List α} {enc : α → Dt} {te : TE} {σ : St} {fin : List V → Hp → Prop} (hJ : ItOver J H vs) (hx : Dens K H vs (xs.map enc)) (hn : xs.length ≤ sizeLine) (f : α → Dt)
    (hf : ∀ a ∈ xs, ∀ v H', Same H H' → Den K H' v (enc a) → ∀ G : VK, (∀ y H'', Same H' H'' → Den K H'' y (f a) → G y H'') → te (some v :: σ) H' G)
    (hd : ∀ ys H', Same H H' → Dens K H' ys (xs.map f) → fin ys H') : ∃ W : Nat → Nat → List V → Hp → Prop, (∃ m, W 0 m [] H) ∧ CompW J tYes te σ fin W :=
  comp_den hJ hx hn (fun _ => true) f (fun a _ v H' _ _ G hG => hG H' (Same.refl _)) (fun a ha _ => hf a ha) fun ys H' s D => hd ys H' s (by rw [List.filter_eq_self.mpr (fun _ _ => rfl)] at D; exact D)
end L2

set_option Elab.async false
set_option linter.all false
set_option maxRecDepth 100000
namespace L2
open PySem PySem.Spec PyProof.Rows
/-! ## The rules that name the written part K, with K as a letter (within a block it must not hang on the block) -/
section
variable {X : Cx} {K : PySem.W.Frag}
theorem k_eqD (hu : X.A.units + 60 < cLine) (hK : X.K = K := by rfl) : OpR X (compareOp .Eq) (rEqD K false) := by subst hK; exact op_eqD hu
theorem k_neD (hu : X.A.units + 60 < cLine) (hK : X.K = K := by rfl) : OpR X (compareOp .NotEq) (rEqD K true) := by subst hK; exact op_neD hu
theorem k_inD (hu : X.A.units + 61 < cLine) (hK : X.K = K := by rfl) : OpR X (compareOp .In) (rInD K false) := by subst hK; exact op_inD hu
theorem k_notInD (hu : X.A.units + 61 < cLine) (hK : X.K = K := by rfl) : OpR X (compareOp .NotIn) (rInD K true) := by subst hK; exact op_notInD hu
theorem k_ix (hK : X.K = K := by rfl) : IxR X (rIx K) := by subst hK; exact ix_seq
def rLenG (K : PySem.W.Frag) : List V → Hp → VK → Prop := fun xs H Q => (∃ p ys, xs = [.ref p] ∧ (SqL K H p ys ∨ SqT K H p ys) ∧ Q (.int ys.length) H) ∨ (∃ z, xs = [.str z] ∧ z.length ≤ sizeLine ∧ Q (.int z.length) H)
theorem k_len (hK : X.K = K := by rfl) : CallR X (.builtin "len") (rLenG K) := by subst hK; exact call_len_seq.or call_len_str
def rSlG (K : PySem.W.Frag) : V → Option Int → Option Int → Hp → VK → Prop := fun x lo hi H Q => rSlL K x lo hi H Q ∨ rSlS x lo hi H Q
theorem k_sl (hK : X.K = K := by rfl) : SlR X (rSlG K) := by subst hK; exact sl_list.or sl_str
def rListOf (K : PySem.W.Frag) : List V → Hp → VK → Prop := fun xs H Q => ∃ p ys, xs = [.ref p] ∧ (SqL K H p ys ∨ SqT K H p ys) ∧ ∀ l, H l = none → Q (.ref l) (upd H l (.lst ys))
theorem k_list (hK : X.K = K := by rfl) : CallR X (.type "list") (rListOf K) := by subst hK; exact call_list_of
theorem k_isi (hK : X.K = K := by rfl) : CallR X (.builtin "isinstance") (rIsi K) := by subst hK; exact call_isi
def rAll (K : PySem.W.Frag) : List V → Hp → VK → Prop := fun xs H Q => ∃ (p : Addr) (bs : List Bool), xs = [.ref p] ∧ SqL K H p (bs.map V.bl) ∧ Q (.bl (bs.all id)) H
theorem k_all (hc : X.calm = true) (hK : X.K = K := by rfl) : CallR X (.builtin "all") (rAll K) := by subst hK; exact call_all hc
theorem k_join (hK : X.K = K := by rfl) : MtR X "str.join" (rJoin K) := by subst hK; exact mt_join
end
section
variable {X : Cx} {K : PySem.W.Frag} {tg l e o : Expr} {es : List Expr} {te ta to : TE} {t : TA} {pos apos cpos : Pos} {f name : Str} {T id : String} {rm : V → List V → Hp → VK → Prop}
theorem kri_list (hl : RE X l te) (hK : X.K = K := by rfl) : RI X tg l (iList K te) := by subst hK; exact ri_list hl
theorem kri_tup (hl : RE X l te) (hK : X.K = K := by rfl) : RI X tg l (iTup K te) := by subst hK; exact ri_tup hl
theorem kr_fld (he : RE X e ta) (hK : X.K = K := by rfl) (hb : attributeBase e f X.env (eval e X.env) = eval e X.env := by rfl) : RE X (.Attribute e f pos) (tFld K ta f) := by subst hK; exact r_fld he hb
theorem kr_bm (pa : PlainAttrs T) (slot : Slot T name id) (hty : typeOf (.builtin id) = pure (.type "method_descriptor")) (hm : MtR X id rm) (ho : RE X o to) (ha : RA X (e :: es) t) (hK : X.K = K := by rfl) (h1 : (e :: es).all notStar = true := by rfl)
    (hbase : attributeBase o name X.env (eval o X.env) = eval o X.env := by rfl) (hlen : decide ((e :: es).length < 30) = true := by rfl) (hline : (apos.endLine == cpos.line) = true := by rfl) : RE X (.Call (.Attribute o name apos) (e :: es) [] cpos) (tBM K T rm to t) := by
  subst hK; exact r_bm pa slot hty hm ho ha h1 hbase hlen hline
theorem kr_bm0 (pa : PlainAttrs T) (slot : Slot T name id) (hty : typeOf (.builtin id) = pure (.type "method_descriptor")) (hm : MtR X id rm) (ho : RE X o to) (hK : X.K = K := by rfl)
    (hbase : attributeBase o name X.env (eval o X.env) = eval o X.env := by rfl) (hline : (apos.endLine == cpos.line) = true := by rfl) : RE X (.Call (.Attribute o name apos) [] [] cpos) (tBM0 K T rm to) := by
  subst hK; exact r_bm0 pa slot hty hm ho hbase hline
end
/-! ## The names that the interpreter has from the start -/
theorem bt_len : bootBuiltins "len" = some (.builtin "len") := by decide +kernel
theorem bt_all : bootBuiltins "all" = some (.builtin "all") := by decide +kernel
theorem bt_any : bootBuiltins "any" = some (.builtin "any") := by decide +kernel
theorem bt_isinstance : bootBuiltins "isinstance" = some (.builtin "isinstance") := by decide +kernel
theorem bt_sorted : bootBuiltins "sorted" = some (.builtin "sorted") := by decide +kernel
theorem bt_min : bootBuiltins "min" = some (.builtin "min") := by decide +kernel
theorem bt_max : bootBuiltins "max" = some (.builtin "max") := by decide +kernel
theorem bt_sum : bootBuiltins "sum" = some (.builtin "sum") := by decide +kernel
theorem bt_abs : bootBuiltins "abs" = some (.builtin "abs") := by decide +kernel
theorem bt_int : bootBuiltins "int" = some (.type "int") := by decide +kernel
theorem bt_str : bootBuiltins "str" = some (.type "str") := by decide +kernel
theorem bt_list : bootBuiltins "list" = some (.type "list") := by decide +kernel
theorem bt_tuple : bootBuiltins "tuple" = some (.type "tuple") := by decide +kernel
theorem bt_bool : bootBuiltins "bool" = some (.type "bool") := by decide +kernel
theorem bt_set : bootBuiltins "set" = some (.type "set") := by decide +kernel
theorem bt_dict : bootBuiltins "dict" = some (.type "dict") := by decide +kernel
theorem bt_enumerate : bootBuiltins "enumerate" = some (.type "enumerate") := by decide +kernel
theorem bt_range : bootBuiltins "range" = some (.type "range") := by decide +kernel
theorem bt_zip : bootBuiltins "zip" = some (.type "zip") := by decide +kernel
theorem bt_ValueError : bootBuiltins "ValueError" = some (.type "ValueError") := by decide +kernel
end L2

set_option Elab.async false
set_option linter.all false
set_option maxRecDepth 100000
namespace L2
open PySem PySem.Spec PyProof.Rows
/-! ## Small things for readings -/
theorem seq_mid {t u : TS} {D : Ends} {σ : L2.St} {H : Hp} (Mid : L2.St → Hp → Prop) (h : ∀ R : L2.St → Hp → Prop, (∀ σ' H', Mid σ' H' → R σ' H') → t { D with nx := R } σ H) (k : ∀ σ' H', Mid σ' H' → u D σ' H') : tSeq t u D σ H := h (u D) k
theorem tyes {A Bq : Hp → Prop} {σ : L2.St} {H : Hp} (h : A H) : tYes σ H (fun b H2 => if b = true then A H2 else Bq H2) := by
  show if true = true then A H else Bq H
  rw [if_pos rfl]; exact h
theorem sz {n : Nat} (h : Nat.ble n 10000 = true) : n ≤ sizeLine := small (Nat.le_of_ble_eq_true h)
theorem dec_v {i j : Int} : decide (V.int i = V.int j) = decide (i = j) := by simp
theorem atI_zero {α : Type} {x : α} {xs : List α} : atI (x :: xs) 0 = some x := atI_nat (j := 0) rfl
theorem hd_of {A : Around} {k : Nat} {env : Env} (hr : Room k (A.deeper env)) : A.handled = none := hr.hd
theorem ite_b {b : Bool} {A Bq : Prop} (h1 : b = true → A) (h2 : b = false → Bq) : if b = true then A else Bq := by
  cases b with
  | true => exact iteT (h1 rfl)
  | false => exact iteF (h2 rfl)
/-- l <= n <= m -/
theorem chain_le {l n m : Int} {te : TE} {σ : L2.St} {H : Hp} {G : Bool → Hp → Prop} (he : ∀ Q' : VK, Q' (.int m) H → te σ H Q') (hg : G (decide (l ≤ n ∧ n ≤ m)) H) :
    if decide (l ≤ n) = true then te σ H (fun w' H4 => rI0 (fun i j => .bl (decide (i ≤ j))) (.int n) w' H4 fun x H' => ∃ k, x = .bl k ∧ G k H') else ∃ k, V.bl false = .bl k ∧ G k H := by
  refine ite2 (fun h1 => he _ ⟨_, _, rfl, rfl, _, rfl, ?_⟩) (fun h1 => ⟨_, rfl, ?_⟩)
  · have h1' := of_decide_eq_true h1
    have e : decide (l ≤ n ∧ n ≤ m) = decide (n ≤ m) := by simp [h1']
    rw [← e]; exact hg
  · have e : decide (l ≤ n ∧ n ≤ m) = false := decide_eq_false fun h => h1 (decide_eq_true h.1)
    rw [← e]; exact hg
/-- l <= n < m -/
theorem chain_lt {l n m : Int} {te : TE} {σ : L2.St} {H : Hp} {G : Bool → Hp → Prop} (he : ∀ Q' : VK, Q' (.int m) H → te σ H Q') (hg : G (decide (l ≤ n ∧ n < m)) H) :
    if decide (l ≤ n) = true then te σ H (fun w' H4 => rI0 (fun i j => .bl (decide (i < j))) (.int n) w' H4 fun x H' => ∃ k, x = .bl k ∧ G k H') else ∃ k, V.bl false = .bl k ∧ G k H := by
  refine ite2 (fun h1 => he _ ⟨_, _, rfl, rfl, _, rfl, ?_⟩) (fun h1 => ⟨_, rfl, ?_⟩)
  · have h1' := of_decide_eq_true h1
    have e : decide (l ≤ n ∧ n < m) = decide (n < m) := by simp [h1']
    rw [← e]; exact hg
  · have e : decide (l ≤ n ∧ n < m) = false := decide_eq_false fun h => h1 (decide_eq_true h.1)
    rw [← e]; exact hg
/-- .. as a value -/
theorem chain_ltV {l n m : Int} {te : TE} {σ : L2.St} {H : Hp} {G : VK} (he : ∀ Q' : VK, Q' (.int m) H → te σ H Q') (hg : G (.bl (decide (l ≤ n ∧ n < m))) H) :
    if decide (l ≤ n) = true then te σ H (fun w' H4 => rI0 (fun i j => .bl (decide (i < j))) (.int n) w' H4 G) else G (.bl false) H := by
  refine ite2 (fun h1 => he _ ⟨_, _, rfl, rfl, ?_⟩) (fun h1 => ?_)
  · have h1' := of_decide_eq_true h1
    have e : decide (l ≤ n ∧ n < m) = decide (n < m) := by simp [h1']
    show G (.bl (decide (n < m))) H
    rw [← e]; exact hg
  · have e : decide (l ≤ n ∧ n < m) = false := decide_eq_false fun h => h1 (decide_eq_true h.1)
    rw [← e]; exact hg

/-! ## Cells -/
abbrev Cell := Int × Int
def cellD (x : Cell) : Dt := .tup [.int x.1, .int x.2]
theorem eqD_cell (a b : Cell) : eqD (cellD a) (cellD b) = decide (a = b) := by
  have e1 : eqD (.int a.1) (.int b.1) = decide (a.1 = b.1) := by rw [eqD_flat rfl rfl]; exact (Bool.beq_eq_decide_eq _ _)
  have e2 : eqD (.int a.2) (.int b.2) = decide (a.2 = b.2) := by rw [eqD_flat rfl rfl]; exact (Bool.beq_eq_decide_eq _ _)
  show (eqD (.int a.1) (.int b.1) && (eqD (.int a.2) (.int b.2) && true)) = _
  rw [e1, e2, Bool.and_true]
  by_cases h1 : a.1 = b.1 <;> by_cases h2 : a.2 = b.2 <;> simp [h1, h2, Prod.ext_iff]
theorem dep_cell (a : Cell) : depD (cellD a) ≤ 50 := Nat.le_of_ble_eq_true rfl
theorem any_cell (x : Cell) : ∀ cs : List Cell, ((cs.map cellD).any fun e => eqD e (cellD x)) = decide (x ∈ cs)
  | [] => by simp
  | c :: cs => by
    rw [List.map_cons, List.any_cons, eqD_cell, any_cell x cs]
    by_cases h : c = x <;> by_cases h2 : x ∈ cs <;> simp [h, h2, eq_comm]
    intro e; exact absurd e.symm h
/-- a list that is held, by what it denotes -/
def Ls (K : PySem.W.Frag) (H : Hp) (p : Addr) (ds : List Dt) : Prop := ∃ xs, H p = some (.lst xs) ∧ Dens K H xs ds
theorem Ls.den {K : PySem.W.Frag} {H : Hp} {p : Addr} {ds : List Dt} (h : Ls K H p ds) : Den K H (.ref p) (.lst ds) := let ⟨_, e, D⟩ := h; .lst (SqL.of e) D
theorem Ls.mono {K : PySem.W.Frag} {H H' : Hp} {p : Addr} {ds : List Dt} (h : Ls K H p ds) (s : Same H H') : Ls K H' p ds := let ⟨xs, e, D⟩ := h; ⟨xs, s _ _ e, D.mono s⟩
theorem Ls.new {K : PySem.W.Frag} {H : Hp} {p : Addr} {xs : List V} {ds : List Dt} (hp : H p = none) (D : Dens K H xs ds) : Ls K (upd H p (.lst xs)) p ds := ⟨xs, upd_same, D.mono (Same.put hp)⟩
/-- a new list has come -/
structure Fr (K : PySem.W.Frag) (H H' : Hp) (p : Addr) (ds : List Dt) : Prop where
  same : Same H H'
  new : H p = none
  ls : Ls K H' p ds
theorem cell_ref {K : PySem.W.Frag} {H : Hp} {v : V} {x : Cell} (h : Den K H v (cellD x)) : ∃ a, v = .ref a ∧ SqT K H a [.int x.1, .int x.2] ∧ H a = some (.tup [.int x.1, .int x.2]) := by
  cases h with
  | tup ht hs =>
    cases hs with
    | cons h1 hs =>
      cases hs with
      | cons h2 hs =>
        cases hs; cases h1; cases h2
        exact ⟨_, rfl, SqT.of ht, ht⟩
theorem den_cell {K : PySem.W.Frag} {H : Hp} {p : Addr} {a b : Int} : Den K (upd H p (.tup [.int a, .int b])) (.ref p) (cellD (a, b)) := .tup upd_same (.cons (.int _) (.cons (.int _) .nil))
theorem den_pair {K : PySem.W.Frag} {H : Hp} {p : Addr} {a b : Int} (h : H p = some (.tup [.int a, .int b])) : Den K H (.ref p) (cellD (a, b)) := .tup h (.cons (.int _) (.cons (.int _) .nil))
section
variable {K : PySem.W.Frag} {H : Hp} {v : V} {x : Cell} {p : Addr} {cs : List Cell} {Q : VK}
theorem rd_fst (d : Den K H v (cellD x)) (q : Q (.int x.1) H) : rIx K v (.int 0) H Q := by
  obtain ⟨a, rfl, h, _⟩ := cell_ref d
  exact .inr (.inl ⟨a, _, _, _, rfl, rfl, h, atI_zero, q⟩)
theorem rd_snd (d : Den K H v (cellD x)) (q : Q (.int x.2) H) : rIx K v (.int 1) H Q := by
  obtain ⟨a, rfl, h, _⟩ := cell_ref d
  exact .inr (.inl ⟨a, _, _, _, rfl, rfl, h, atI_nat (j := 1) rfl, q⟩)
theorem rd_in (d : Den K H v (cellD x)) (h : Den K H (.ref p) (.lst (cs.map cellD))) (q : Q (.bl (decide (x ∈ cs))) H) : rInD K false v (.ref p) H Q := by
  refine ⟨cellD x, cs.map cellD, p, rfl, d, .inl h, fun e he => ?_, ?_⟩
  · obtain ⟨c, _, rfl⟩ := List.mem_map.mp he
    exact ⟨rfl, dep_cell c⟩
  · show Q (.bl ((cs.map cellD).any fun e => eqD e (cellD x))) H
    rw [any_cell]; exact q
theorem rd_notin (d : Den K H v (cellD x)) (h : Den K H (.ref p) (.lst (cs.map cellD))) (q : Q (.bl (!decide (x ∈ cs))) H) : rInD K true v (.ref p) H Q := by
  refine ⟨cellD x, cs.map cellD, p, rfl, d, .inl h, fun e he => ?_, ?_⟩
  · obtain ⟨c, _, rfl⟩ := List.mem_map.mp he
    exact ⟨rfl, dep_cell c⟩
  · show Q (.bl (!(cs.map cellD).any fun e => eqD e (cellD x))) H
    rw [any_cell]; exact q
theorem rd_len {ds : List Dt} (h : Den K H (.ref p) (.lst ds)) (q : Q (.int ds.length) H) : rLenG K [.ref p] H Q := by
  cases h with
  | lst hl D => exact .inl ⟨p, _, rfl, .inl hl, by rw [D.length]; exact q⟩
/-- a, b = a cell -/
theorem rd_two {σ : L2.St} {i j : Nat} {N : L2.St → Hp → Prop} (d : Den K H v (cellD x)) (q : N ((σ.set i (some (.int x.1))).set j (some (.int x.2))) H) : gTup K 2 (gCons (gName i) (gCons (gName j) gNil)) v σ H N := by
  obtain ⟨a, rfl, h, _⟩ := cell_ref d
  exact ⟨a, _, rfl, h, rfl, _, _, rfl, _, _, rfl, rfl, q⟩
theorem rd_cat {q' : Addr} {ds es : List Dt} (h : Ls K H p ds) (h2 : Ls K H q' es) (hz : ds.length + es.length ≤ 10000) (q : ∀ r H', Fr K H H' r (ds ++ es) → Q (.ref r) H') : rAddG (.ref p) (.ref q') H Q := by
  obtain ⟨xs, e, D⟩ := h
  obtain ⟨ys, e2, D2⟩ := h2
  exact ⟨xs, ys, e, e2, by rw [D.length, D2.length]; exact small hz, fun r hr => q r _ ⟨Same.put hr, hr, .new hr (D.append D2)⟩⟩
end

/-! ## The field -/
def inF (h w : Int) (x : Cell) : Prop := (0 ≤ x.1 ∧ x.1 < h) ∧ (0 ≤ x.2 ∧ x.2 < w)
instance (h w : Int) (x : Cell) : Decidable (inF h w x) := by unfold inF; infer_instance
def offs : List Cell := [(-1, -1), (-1, 0), (-1, 1), (0, -1), (0, 1), (1, -1), (1, 0), (1, 1)]
def lnear (h w : Int) (x : Cell) : List Cell := (offs.map fun d => (x.1 + d.1, x.2 + d.2)).filter fun y => decide (inF h w y)
/-- all cells, in rising order -/
def fieldL (h w : Nat) : List Cell := (List.range h).flatMap fun r : Nat => (List.range w).map fun c : Nat => ((r : Int), (c : Int))
def figN (h w : Int) (st : List Cell) (x : Cell) : Nat := ((lnear h w x).filter fun y => decide (y ∈ st)).length
/-! ### signs -/
def inS (sg : Str) (c : Nat) : Bool := !(Builtin.Str.occurrences sg ⟨#[c]⟩ 0 sg.length 1).isEmpty
def codeAt (zs : List Str) (x : Nat × Nat) : Nat := (zs.getD x.1 Str.empty).cps.getD x.2 0
/-- the cells whose sign is one of sg -/
def cellsL (zs : List Str) (w : Nat) (sg : Str) : List Cell := (List.range zs.length).flatMap fun r : Nat => ((List.range w).filter fun c => inS sg (codeAt zs (r, c))).map fun c : Nat => ((r : Int), (c : Int))
/-- rows as long as one another -/
structure Rect (zs : List Str) (w : Nat) : Prop where
  ne : 1 ≤ zs.length
  le : zs.length ≤ 6
  w1 : 1 ≤ w
  w6 : w ≤ 6
  len : ∀ z ∈ zs, z.length = w
theorem Rect.head {zs : List Str} {w : Nat} (h : Rect zs w) : ∃ z zt, zs = z :: zt ∧ z.length = w := by
  cases zs with
  | nil => exact absurd h.ne (by decide)
  | cons z zt => exact ⟨z, zt, rfl, h.len z List.mem_cons_self⟩
end L2

set_option Elab.async false
set_option linter.all false
set_option maxRecDepth 100000
namespace L2
open PySem PySem.Spec PyProof.Rows
/-! ## Heaps that are the same but for one list that is written -/
def SameBut (p : Addr) (H H' : Hp) : Prop := ∀ b o, H b = some o → b ≠ p → H' b = some o
theorem SameBut.refl (p : Addr) (H : Hp) : SameBut p H H := fun _ _ e _ => e
theorem SameBut.trans {p : Addr} {H H1 H2 : Hp} (a : SameBut p H H1) (b : SameBut p H1 H2) : SameBut p H H2 := fun c o e n => b c o (a c o e n) n
theorem Same.but {H H' : Hp} (s : Same H H') (p : Addr) : SameBut p H H' := fun b o e _ => s b o e
theorem SameBut.put {p : Addr} {H H' : Hp} {o : HO} (s : SameBut p H H') : SameBut p H (upd H' p o) := fun b u e n => by rw [upd_ne n]; exact s b u e n
theorem SameBut.and {p q : Addr} {H H' : Hp} {o : HO} (s : SameBut p H H') (hq : H' q = none) : SameBut p H (upd H' q o) := fun b u e n => (Same.put hq) b u (s b u e n)
/-- what was there ahead of the list is there still -/
theorem SameBut.of {p : Addr} {H H0 H' : Hp} (s : SameBut p H0 H') (a : Same H H0) (np : H p = none) : Same H H' := fun b o e => s b o (a b o e) (ne_of_none e np)
section
variable {K : PySem.W.Frag} {p : Addr} {H H' : Hp} {l : List V}
theorem SameBut.tup {a : Addr} {xs : List V} (s : SameBut p H H') (hp : H p = some (.lst l)) (h : SqT K H a xs) : SqT K H' a xs := by
  rcases h with (h | ⟨o, h⟩) | h
  · exact .inl (.inl (s _ _ h (ne_of h hp (by intro z; cases z))))
  · exact .inl (.inr ⟨o, s _ _ h (ne_of h hp (by intro z; cases z))⟩)
  · exact .inr h
theorem SameBut.seq {a : Addr} {xs : List V} (s : SameBut p H H') (ha : H a = some (.lst xs)) (n : a ≠ p) : SqL K H' a xs := SqL.of (s _ _ ha n)
theorem SameBut.cell {v : V} {x : Cell} (s : SameBut p H H') (hp : H p = some (.lst l)) (h : Den K H v (cellD x)) : Den K H' v (cellD x) := by
  obtain ⟨a, rfl, _, ht⟩ := cell_ref h
  exact .tup (s _ _ ht (ne_of ht hp (by intro z; cases z))) (.cons (.int _) (.cons (.int _) .nil))
theorem SameBut.cells (s : SameBut p H H') (hp : H p = some (.lst l)) : ∀ {vs : List V} {cs : List Cell}, Dens K H vs (cs.map cellD) → Dens K H' vs (cs.map cellD)
  | [], [], _ => .nil
  | v :: vs, c :: cs, .cons h t => .cons (s.cell hp h) (s.cells hp t)
theorem SameBut.ls {q : Addr} {cs : List Cell} (s : SameBut p H H') (hp : H p = some (.lst l)) (n : q ≠ p) (h : Ls K H q (cs.map cellD)) : Ls K H' q (cs.map cellD) := let ⟨xs, e, D⟩ := h; ⟨xs, s _ _ e n, s.cells hp D⟩
end
/-! ### a cell in a display -/
theorem disp_cons {K : PySem.W.Frag} {ta tb : TE} {tr : TA} {σ : L2.St} {H : Hp} {Q : List V → Hp → Prop} (a b : Int) (ha : ∀ Q' : VK, Q' (.int a) H → ta σ H Q') (hb : ∀ Q' : VK, Q' (.int b) H → tb σ H Q')
    (h : ∀ v H', Same H H' → Den K H' v (cellD (a, b)) → tr σ H' fun xs H2 => Q (v :: xs) H2) : tCons (tTup (tCons ta (tCons tb tNil))) tr σ H Q :=
  ha _ (hb _ ⟨sz rfl, fun p hp => h _ _ (Same.put hp) den_cell⟩)
/-- for .. in [..] -/
theorem for_disp {K : PySem.W.Frag} {ta : TA} {g : TG} {tb : TS} {D : Ends} {σ : L2.St} {H : Hp}
    (h : ta σ H fun xs H1 => xs.length ≤ sizeLine ∧ ∀ p, H1 p = none → ∃ a, V.ref p = .ref a ∧ (∃ ys, SqL K (upd H1 p (.lst xs)) a ys) ∧ ∃ W : Nat → Nat → L2.St → Hp → Prop, (∃ m, W 0 m σ (upd H1 p (.lst xs))) ∧ ∀ i m σ H, W i m σ H →
      ((Itl K a).stop i H ∧ D.nx σ H) ∨ ((Itl K a).go i H ∧ ∃ N : L2.St → Hp → Prop, (∀ σ' H', N σ' H' → ∃ m', m' < m ∧ W (i + 1) m' σ' H') ∧ ∀ x H', (Itl K a).yld i H x H' → g x σ H' fun σ2 H2 => tb { D with nx := N, ct := N, bk := D.nx } σ2 H2)) :
    tFor (iList K (tLst ta)) g tb D σ H := h
theorem ltl {n : Nat} (h : n < 10000) : n < sizeLine := Nat.lt_of_lt_of_le h (by rw [sizeLine_eq]; decide)
/-- xs.append(v) -/
theorem rd_append {K : PySem.W.Frag} {p : Addr} {H : Hp} {l : List V} {v : V} {Q : VK} (hp : H p = some (.lst l)) (hz : l.length < 10000) (q : Q .non (upd H p (.lst (l ++ [v])))) : rAppend (.ref p) [v] H Q :=
  ⟨p, l, v, rfl, rfl, hp, Nat.lt_of_lt_of_le hz (by rw [sizeLine_eq]; decide), q⟩
end L2

set_option Elab.async false
set_option linter.all false
set_option maxRecDepth 100000
namespace L2
open PySem PySem.Spec PyProof.Rows
/-! ## Rows and signs by their places -/
theorem at_row {zs : List Str} {r : Nat} (h : r < zs.length) : atI (zs.map V.str) (r : Int) = some (.str (zs.getD r Str.empty)) := atI_nat (by simp [List.getD_eq_getElem?_getD, h])
theorem at_sign {z : Str} {c : Nat} (h : c < z.length) : atI z.cps.toList (c : Int) = some (z.cps.getD c 0) := by
  have h' : c < z.cps.size := h
  exact atI_nat (by simp [Array.getD_eq_getD_getElem?, h'])
theorem Rect.row {zs : List Str} {w r : Nat} (h : Rect zs w) (hr : r < zs.length) : (zs.getD r Str.empty).length = w := by
  have e : zs.getD r Str.empty = zs[r] := by simp [List.getD_eq_getElem?_getD, hr]
  rw [e]; exact h.len _ (List.getElem_mem hr)
/-- rows[r][c] -/
theorem rd_sign {K : PySem.W.Frag} {H : Hp} {p : Addr} {zs : List Str} {w r c : Nat} {Q : VK} (hS : SqL K H p (zs.map V.str)) (rc : Rect zs w) (hr : r < zs.length) (hc : c < w) (q : Q (.str ⟨#[codeAt zs (r, c)]⟩) H) : rIx K (.str (zs.getD r Str.empty)) (.int (c : Int)) H Q := by
  have e := rc.row hr
  exact .inr (.inr ⟨_, _, _, rfl, rfl, small (by have := rc.w6; omega), at_sign (by omega), q⟩)
theorem rd_row {K : PySem.W.Frag} {H : Hp} {p : Addr} {zs : List Str} {r : Nat} {Q : VK} (hS : SqL K H p (zs.map V.str)) (hr : r < zs.length) (q : Q (.str (zs.getD r Str.empty)) H) : rIx K (.ref p) (.int (r : Int)) H Q :=
  .inl ⟨p, _, _, _, rfl, rfl, hS, at_row hr, q⟩
theorem over_range0 {H : Hp} (n : Nat) : ItOver (Itr 0 n) H ((List.range n).map fun i : Nat => V.int (i : Int)) := by
  have h := over_range (H := H) 0 n
  have e : (((List.range n).map fun i : Nat => (0 : Int) + (i : Int)).map V.int) = (List.range n).map fun i : Nat => V.int (i : Int) := by
    rw [List.map_map]
    refine List.map_congr_left fun i _ => ?_
    simp
  rw [e] at h; exact h
theorem Dens.nats {K : PySem.W.Frag} {H : Hp} : ∀ l : List Nat, Dens K H (l.map fun i : Nat => V.int (i : Int)) (l.map fun i : Nat => Dt.int (i : Int))
  | [] => .nil
  | _ :: l => .cons (.int _) (Dens.nats l)
/-! ### the field -/
theorem mem_field {h w : Nat} {x : Cell} : x ∈ fieldL h w ↔ inF h w x := by
  unfold fieldL inF
  rw [List.mem_flatMap]
  constructor
  · rintro ⟨r, hr, hx⟩
    obtain ⟨c, hc, rfl⟩ := List.mem_map.mp hx
    rw [List.mem_range] at hr hc
    exact ⟨⟨by show (0 : Int) ≤ (r : Int); omega, by show (r : Int) < h; omega⟩, ⟨by show (0 : Int) ≤ (c : Int); omega, by show (c : Int) < w; omega⟩⟩
  · rintro ⟨⟨a, b⟩, ⟨c, d⟩⟩
    refine ⟨x.1.toNat, List.mem_range.mpr (by omega), List.mem_map.mpr ⟨x.2.toNat, List.mem_range.mpr (by omega), ?_⟩⟩
    exact Prod.ext (by show ((x.1.toNat : Nat) : Int) = x.1; omega) (by show ((x.2.toNat : Nat) : Int) = x.2; omega)
theorem field_succ (h w : Nat) : fieldL (h + 1) w = fieldL h w ++ (List.range w).map fun c : Nat => ((h : Int), (c : Int)) := by
  unfold fieldL
  rw [List.range_succ, List.flatMap_append]
  simp
theorem field_len (h w : Nat) : (fieldL h w).length = h * w := by
  induction h with
  | zero => simp [fieldL]
  | succ h ih => rw [field_succ, List.length_append, ih, List.length_map, List.length_range, Nat.succ_mul]
theorem lnear_len (h w : Int) (x : Cell) : (lnear h w x).length ≤ 8 := by
  unfold lnear
  exact Nat.le_trans (List.length_filter_le _ _) (by rw [List.length_map]; decide)
theorem figN_le (h w : Int) (st : List Cell) (x : Cell) : figN h w st x ≤ 8 := Nat.le_trans (List.length_filter_le _ _) (lnear_len h w x)
theorem lnear_in {h w : Int} {x y : Cell} (hy : y ∈ lnear h w x) : inF h w y := by
  unfold lnear at hy
  exact of_decide_eq_true (List.mem_filter.mp hy).2
theorem cells_len (zs : List Str) (w : Nat) (sg : Str) : (cellsL zs w sg).length ≤ zs.length * w := by
  unfold cellsL
  have go : ∀ n, ((List.range n).flatMap fun r : Nat => ((List.range w).filter fun c => inS sg (codeAt zs (r, c))).map fun c : Nat => ((r : Int), (c : Int))).length ≤ n * w := by
    intro n
    induction n with
    | zero => simp
    | succ n ih =>
      rw [List.range_succ, List.flatMap_append, List.length_append, Nat.succ_mul]
      refine Nat.add_le_add ih ?_
      simp only [List.flatMap_cons, List.flatMap_nil, List.append_nil, List.length_map]
      exact Nat.le_trans (List.length_filter_le _ _) (by rw [List.length_range]; exact Nat.le_refl _)
  exact go _
/-- the first n rows' cells with such signs -/
def cellsN (zs : List Str) (w : Nat) (sg : Str) (n : Nat) : List Cell := (List.range n).flatMap fun r : Nat => ((List.range w).filter fun c => inS sg (codeAt zs (r, c))).map fun c : Nat => ((r : Int), (c : Int))
theorem cellsN_succ (zs : List Str) (w : Nat) (sg : Str) (n : Nat) : cellsN zs w sg (n + 1) = cellsN zs w sg n ++ ((List.range w).filter fun c => inS sg (codeAt zs (n, c))).map fun c : Nat => ((n : Int), (c : Int)) := by
  unfold cellsN
  rw [List.range_succ, List.flatMap_append]; simp
theorem cellsN_len (zs : List Str) (w : Nat) (sg : Str) : ∀ n, (cellsN zs w sg n).length ≤ n * w := by
  intro n
  induction n with
  | zero => simp [cellsN]
  | succ n ih =>
    rw [cellsN_succ, List.length_append, Nat.succ_mul, List.length_map]
    exact Nat.add_le_add ih (Nat.le_trans (List.length_filter_le _ _) (by rw [List.length_range]; exact Nat.le_refl _))
end L2

set_option Elab.async false
set_option linter.all false
set_option maxRecDepth 100000
namespace L2
open PySem PySem.Spec PyProof.Rows
/-! ## What a game shows -/
def sgnN (h w : Int) (st kn : List Cell) (x : Cell) : Nat := if x ∈ kn then 48 + figN h w st x else 35
def rowN (h w : Int) (st kn : List Cell) (r : Int) (n : Nat) : Str := ⟨((List.range n).map fun c : Nat => sgnN h w st kn (r, (c : Int))).toArray⟩
def shownL (h w : Nat) (st kn : List Cell) : List Str := (List.range h).map fun r : Nat => rowN h w st kn (r : Int) w
theorem row_succ (h w : Int) (st kn : List Cell) (r : Int) (n : Nat) : rowN h w st kn r (n + 1) = rowN h w st kn r n ++ ⟨#[sgnN h w st kn (r, (n : Int))]⟩ := by
  unfold rowN
  rw [List.range_succ, List.map_append]
  show (⟨_⟩ : Str) = ⟨_ ++ _⟩
  simp
theorem row_len (h w : Int) (st kn : List Cell) (r : Int) (n : Nat) : (rowN h w st kn r n).length = n := by
  show (((List.range n).map fun c : Nat => sgnN h w st kn (r, (c : Int))).toArray).size = n
  simp
theorem dig : ∀ n, n ≤ 8 → (Str.ofString (toString ((n : Nat) : Int)) : Str) = ⟨#[48 + n]⟩ := by
  intro n hn
  have := (by decide +kernel : ∀ k ∈ List.range 9, (Str.ofString (toString ((k : Nat) : Int)) : Str) = ⟨#[48 + k]⟩)
  exact this n (List.mem_range.mpr (by omega))
theorem dig_log (n : Nat) (h : n ≤ 8) : ((n : Nat) : Int).natAbs.log2 < 1920 := by
  have e : ((n : Nat) : Int).natAbs = n := Int.natAbs_natCast n
  rw [e]
  have := (by decide : ∀ k ∈ List.range 9, k.log2 < 1920)
  exact this n (List.mem_range.mpr (by omega))
/-! ### opening -/
inductive Reach (h w : Int) (st kn : List Cell) (x0 : Cell) : Cell → Prop
  | base : Reach h w st kn x0 x0
  | step {x y : Cell} : Reach h w st kn x0 x → figN h w st x = 0 → y ∈ lnear h w x → y ∉ kn → Reach h w st kn x0 y
theorem fig_zero {h w : Int} {st : List Cell} {x y : Cell} (e : figN h w st x = 0) (hy : y ∈ lnear h w x) : y ∉ st := by
  unfold figN at e
  intro hs
  have := List.length_eq_zero_iff.mp e
  have m : y ∈ (lnear h w x).filter fun y => decide (y ∈ st) := List.mem_filter.mpr ⟨hy, decide_eq_true hs⟩
  rw [this] at m; cases m
theorem Reach.inF {h w : Int} {st kn : List Cell} {x0 y : Cell} (h0 : inF h w x0) (r : Reach h w st kn x0 y) : L2.inF h w y := by
  induction r with
  | base => exact h0
  | step _ _ hy _ _ => exact lnear_in hy
theorem Reach.free {h w : Int} {st kn : List Cell} {x0 y : Cell} (h0 : x0 ∉ st) (r : Reach h w st kn x0 y) : y ∉ st := by
  induction r with
  | base => exact h0
  | step _ e hy _ _ => exact fig_zero e hy
theorem Reach.new {h w : Int} {st kn : List Cell} {x0 y : Cell} (h0 : x0 ∉ kn) (r : Reach h w st kn x0 y) : y ∉ kn := by
  cases r with
  | base => exact h0
  | step _ _ _ hk => exact hk
theorem lnear_nodup (h w : Int) (x : Cell) : (lnear h w x).Nodup := by
  unfold lnear
  refine List.Nodup.sublist List.filter_sublist ?_
  unfold List.Nodup
  rw [List.pairwise_map]
  have o : offs.Pairwise (· ≠ ·) := by decide
  refine o.imp fun {a b} hab e => hab ?_
  have e1 := congrArg Prod.fst e
  have e2 := congrArg Prod.snd e
  simp only at e1 e2
  exact Prod.ext (by omega) (by omega)
theorem nodup_le {α : Type} [DecidableEq α] : ∀ {l1 l2 : List α}, l1.Nodup → (∀ x ∈ l1, x ∈ l2) → l1.length ≤ l2.length
  | [], _, _, _ => Nat.zero_le _
  | a :: l1, l2, hn, hs => by
    have ha := hs a List.mem_cons_self
    have hn' := List.nodup_cons.mp hn
    have ih := nodup_le (l1 := l1) (l2 := l2.erase a) hn'.2 fun x hx => (List.mem_erase_of_ne (fun e : x = a => hn'.1 (by rw [← e]; exact hx))).mpr (hs x (List.mem_cons_of_mem _ hx))
    rw [List.length_erase_of_mem ha] at ih
    have : 0 < l2.length := List.length_pos_of_mem ha
    rw [List.length_cons]; omega
/-- the state of the opening loop -/
structure OpInv (h w : Int) (st kn : List Cell) (x0 : Cell) (cs : List Cell) (at_ : Nat) : Prop where
  nd : cs.Nodup
  has : x0 ∈ cs
  rch : ∀ y ∈ cs, Reach h w st kn x0 y
  le : at_ ≤ cs.length
  cl : ∀ i y, i < at_ → cs[i]? = some y → figN h w st y = 0 → ∀ z ∈ lnear h w y, z ∈ kn ∨ z ∈ cs
theorem OpInv.done {h w : Int} {st kn : List Cell} {x0 : Cell} {cs : List Cell} (o : OpInv h w st kn x0 cs cs.length) (y : Cell) : y ∈ cs ↔ Reach h w st kn x0 y := by
  refine ⟨o.rch y, fun r => ?_⟩
  induction r with
  | base => exact o.has
  | step _ e hy hk ih =>
    obtain ⟨i, hi⟩ := List.getElem?_of_mem ih
    have hlt : i < cs.length := (List.getElem?_eq_some_iff.mp hi).1
    rcases o.cl i _ hlt hi e _ hy with z | z
    · exact absurd z hk
    · exact z
theorem OpInv.grow {h w : Int} {st kn : List Cell} {x0 x : Cell} {cs : List Cell} {n : Nat} (o : OpInv h w st kn x0 cs n) (hx : cs[n]? = some x) (e : figN h w st x = 0) :
    OpInv h w st kn x0 (cs ++ (lnear h w x).filter fun y => !decide (y ∈ kn) && !decide (y ∈ cs)) (n + 1) := by
  have hn : n < cs.length := (List.getElem?_eq_some_iff.mp hx).1
  have mem : ∀ y, y ∈ ((lnear h w x).filter fun y => !decide (y ∈ kn) && !decide (y ∈ cs)) ↔ y ∈ lnear h w x ∧ y ∉ kn ∧ y ∉ cs := fun y => by
    rw [List.mem_filter]; simp
  refine ⟨?_, List.mem_append_left _ o.has, fun y hy => ?_, by rw [List.length_append]; omega, fun i y hi hy e' z hz => ?_⟩
  · refine List.nodup_append.mpr ⟨o.nd, List.Nodup.sublist List.filter_sublist (lnear_nodup h w x), fun a ha b hb hab => ?_⟩
    rw [← hab] at hb
    exact ((mem a).mp hb).2.2 ha
  · rcases List.mem_append.mp hy with z | z
    · exact o.rch y z
    · obtain ⟨z1, z2, z3⟩ := (mem y).mp z
      exact .step (o.rch x (List.mem_of_getElem? hx)) e z1 z2
  · have hi' : i < cs.length := by omega
    rw [List.getElem?_append_left hi'] at hy
    by_cases hin : i = n
    · subst hin
      rw [hx] at hy; cases hy
      by_cases zk : z ∈ kn
      · exact .inl zk
      · by_cases zc : z ∈ cs
        · exact .inr (List.mem_append_left _ zc)
        · exact .inr (List.mem_append_right _ ((mem z).mpr ⟨hz, zk, zc⟩))
    · rcases o.cl i y (by omega) hy e' z hz with q | q
      · exact .inl q
      · exact .inr (List.mem_append_left _ q)
theorem OpInv.skip {h w : Int} {st kn : List Cell} {x0 x : Cell} {cs : List Cell} {n : Nat} (o : OpInv h w st kn x0 cs n) (hx : cs[n]? = some x) (e : figN h w st x ≠ 0) : OpInv h w st kn x0 cs (n + 1) := by
  have hn : n < cs.length := (List.getElem?_eq_some_iff.mp hx).1
  refine ⟨o.nd, o.has, o.rch, hn, fun i y hi hy e' z hz => ?_⟩
  by_cases hin : i = n
  · subst hin
    rw [hx] at hy; cases hy
    exact absurd e' e
  · exact o.cl i y (by omega) hy e' z hz
theorem OpInv.len {h w : Nat} {st kn : List Cell} {x0 : Cell} {cs : List Cell} {n : Nat} (o : OpInv h w st kn x0 cs n) (h0 : inF h w x0) (h6 : h ≤ 6) (w6 : w ≤ 6) : cs.length ≤ 36 := by
  have := nodup_le (l2 := fieldL h w) o.nd fun y hy => mem_field.mpr ((o.rch y hy).inF h0)
  rw [field_len] at this
  have : h * w ≤ 6 * 6 := Nat.mul_le_mul h6 w6
  omega
end L2

set_option Elab.async false
set_option linter.all false
set_option maxRecDepth 100000
namespace L2
open PySem PySem.Spec PyProof.Rows
/-! ## Signs -/
theorem inS_no {sg : Str} {c : Nat} (h : c ∉ sg.cps.toList) : inS sg c = false := by
  unfold inS
  rw [PySem.W.occ_nil_of_no sg ⟨#[c]⟩ 1 fun i hi => ?_]
  · rfl
  · cases e : Builtin.Str.subAt sg ⟨#[c]⟩ i with
    | false => rfl
    | true =>
      refine absurd ?_ h
      have e' : sg.cps.extract i (i + 1) = #[c] := beq_iff_eq.mp e
      have hm : c ∈ sg.cps.extract i (i + 1) := by rw [e']; simp
      obtain ⟨k, hk, e2⟩ := Array.mem_extract_iff_getElem.mp hm
      rw [← e2]
      exact Array.getElem_mem_toList _
theorem inS_of {sg : Str} (h : sg.cps.toList.all (inS sg) = true) (c : Nat) : inS sg c = decide (c ∈ sg.cps.toList) := by
  by_cases hc : c ∈ sg.cps.toList
  · rw [decide_eq_true hc]; exact List.all_eq_true.mp h c hc
  · rw [decide_eq_false hc]; exact inS_no hc
def sgnOK (c : Nat) : Bool := decide (c = 35 ∨ (48 ≤ c ∧ c ≤ 56))
theorem inS_all (c : Nat) : inS "#012345678" c = sgnOK c := by
  rw [inS_of (by decide +kernel)]
  have e : ("#012345678" : Str).cps.toList = [35, 48, 49, 50, 51, 52, 53, 54, 55, 56] := by decide +kernel
  rw [e]
  unfold sgnOK
  congr 1
  apply propext
  simp only [List.mem_cons, List.not_mem_nil, or_false]
  omega
theorem inS_hash (c : Nat) : inS "#" c = decide (c = 35) := by
  rw [inS_of (by decide +kernel)]
  have e : ("#" : Str).cps.toList = [35] := by decide +kernel
  rw [e]; simp
theorem inS_figs (c : Nat) : inS "012345678" c = decide (48 ≤ c ∧ c ≤ 56) := by
  rw [inS_of (by decide +kernel)]
  have e : ("012345678" : Str).cps.toList = [48, 49, 50, 51, 52, 53, 54, 55, 56] := by decide +kernel
  rw [e]
  congr 1
  apply propext
  simp only [List.mem_cons, List.not_mem_nil, or_false]
  omega
theorem inS_some (c : Nat) : inS "12345678" c = decide (49 ≤ c ∧ c ≤ 56) := by
  rw [inS_of (by decide +kernel)]
  have e : ("12345678" : Str).cps.toList = [49, 50, 51, 52, 53, 54, 55, 56] := by decide +kernel
  rw [e]
  congr 1
  apply propext
  simp only [List.mem_cons, List.not_mem_nil, or_false]
  omega
/-! ## Slices of texts by their signs -/
theorem slice_codes (x : Str) (lo hi : Option Int) : (Txt.slice x lo hi).cps.toList = (x.cps.toList.drop (HT.sIx x.length 0 lo)).take (HT.sIx x.length x.length hi - HT.sIx x.length 0 lo) := by
  have e : Builtin.Str.strSliceIndices lo hi 1 x.length = (List.range (HT.sIx x.length x.length hi - HT.sIx x.length 0 lo)).map (HT.sIx x.length 0 lo + ·) := by
    obtain ⟨h1, h2, _⟩ := slice_bounds lo hi x.length
    rw [← sliceRange_one, ← h1, ← h2]; rfl
  unfold Txt.slice
  rw [e]
  have hb : HT.sIx x.length x.length hi ≤ x.length := HT.sIx_le _ _ (Nat.le_refl _) hi
  have ha : HT.sIx x.length 0 lo ≤ x.length := HT.sIx_le _ _ (Nat.zero_le _) lo
  have hx : x.cps.toList.length = x.length := Array.length_toList
  split
  · rename_i hc
    simp only [List.length_map, List.length_range, Bool.and_eq_true, beq_iff_eq] at hc
    have h0 : HT.sIx x.length x.length hi - HT.sIx x.length 0 lo = x.length := hc.2
    by_cases hz : x.length = 0
    · have : x.cps.toList = [] := List.length_eq_zero_iff.mp (by rw [hx, hz])
      rw [this]; simp
    · have e1 : HT.sIx x.length 0 lo = 0 := by omega
      rw [h0, e1, List.drop_zero, ← hx, List.take_length]
  · show (((List.range _).map _).filterMap (x.cps[·]?)).toArray.toList = _
    rw [pick_run]
theorem slice_to (x : Str) (n : Nat) (h : n ≤ x.length) : (Txt.slice x none (some (n : Int))).cps.toList = x.cps.toList.take n := by
  rw [slice_codes, HT.sIx_none, HT.sIx_nat, Nat.min_eq_left h, List.drop_zero, Nat.sub_zero]
theorem slice_from (x : Str) (n : Nat) (h : n ≤ x.length) : (Txt.slice x (some (n : Int)) none).cps.toList = x.cps.toList.drop n := by
  rw [slice_codes, HT.sIx_none, HT.sIx_nat, Nat.min_eq_left h]
  refine List.take_of_length_le ?_
  rw [List.length_drop, Array.length_toList]
  exact Nat.le_refl _
theorem app_codes (a b : Str) : (a ++ b).cps.toList = a.cps.toList ++ b.cps.toList := by
  show (a.cps ++ b.cps).toList = _
  simp
theorem str_len (z : Str) : z.length = z.cps.toList.length := Array.length_toList.symm
/-! ## Views -/
structure Vw (zs : List Str) (w : Nat) : Prop extends Rect zs w where
  sg : ∀ z ∈ zs, ∀ c ∈ z.cps.toList, sgnOK c = true
theorem shown_vw {h w : Nat} {st kn : List Cell} (h1 : 1 ≤ h) (h6 : h ≤ 6) (w1 : 1 ≤ w) (w6 : w ≤ 6) : Vw (shownL h w st kn) w := by
  have hl : (shownL h w st kn).length = h := by unfold shownL; rw [List.length_map, List.length_range]
  refine ⟨⟨by omega, by omega, w1, w6, fun z hz => ?_⟩, fun z hz c hc => ?_⟩
  · obtain ⟨r, _, rfl⟩ := List.mem_map.mp hz
    exact row_len _ _ _ _ _ _
  · obtain ⟨r, _, rfl⟩ := List.mem_map.mp hz
    unfold rowN at hc
    simp only [List.mem_map] at hc
    obtain ⟨k, _, rfl⟩ := hc
    unfold sgnN sgnOK
    have := figN_le h w st ((r : Int), (k : Int))
    split
    · exact decide_eq_true (.inr ⟨by omega, by omega⟩)
    · exact decide_eq_true (.inl rfl)
/-- a sign put otherwise -/
def putSign (zs : List Str) (r c : Nat) (s : Str) : List Str := zs.take r ++ [Txt.slice (zs.getD r Str.empty) none (some (c : Int)) ++ s ++ Txt.slice (zs.getD r Str.empty) (some ((c : Int) + 1)) none] ++ zs.drop (r + 1)
theorem put_vw {zs : List Str} {w r c : Nat} {s : Str} (v : Vw zs w) (hr : r < zs.length) (hc : c < w) (hs : s.length = 1) (hk : ∀ k ∈ s.cps.toList, sgnOK k = true) : Vw (putSign zs r c s) w ∧ (putSign zs r c s).length = zs.length := by
  have er := v.toRect.row hr
  have mem : zs.getD r Str.empty ∈ zs := by
    have e : zs.getD r Str.empty = zs[r] := by simp [List.getD_eq_getElem?_getD, hr]
    rw [e]; exact List.getElem_mem hr
  have s1 := slice_to (zs.getD r Str.empty) c (by omega)
  have s2 : (Txt.slice (zs.getD r Str.empty) (some ((c : Int) + 1)) none).cps.toList = (zs.getD r Str.empty).cps.toList.drop (c + 1) := slice_from (zs.getD r Str.empty) (c + 1) (by omega)
  have hcodes : (Txt.slice (zs.getD r Str.empty) none (some (c : Int)) ++ s ++ Txt.slice (zs.getD r Str.empty) (some ((c : Int) + 1)) none).cps.toList = (zs.getD r Str.empty).cps.toList.take c ++ s.cps.toList ++ (zs.getD r Str.empty).cps.toList.drop (c + 1) := by
    rw [app_codes, app_codes, s1, s2]
  have hll : (putSign zs r c s).length = zs.length := by
    unfold putSign
    rw [List.length_append, List.length_append, List.length_take, List.length_drop, List.length_singleton]; omega
  have ln : (zs.getD r Str.empty).cps.toList.length = w := by rw [← str_len]; exact er
  refine ⟨⟨⟨by rw [hll]; exact v.ne, by rw [hll]; exact v.le, v.w1, v.w6, fun z hz => ?_⟩, fun z hz k hk' => ?_⟩, hll⟩
  · unfold putSign at hz
    rcases List.mem_append.mp hz with hz | hz
    · rcases List.mem_append.mp hz with hz | hz
      · exact v.len z (List.mem_of_mem_take hz)
      · rw [List.mem_singleton.mp hz, str_len, hcodes, List.length_append, List.length_append, List.length_take, List.length_drop, ln, ← str_len, hs]; omega
    · exact v.len z (List.mem_of_mem_drop hz)
  · unfold putSign at hz
    rcases List.mem_append.mp hz with hz | hz
    · rcases List.mem_append.mp hz with hz | hz
      · exact v.sg z (List.mem_of_mem_take hz) k hk'
      · rw [List.mem_singleton.mp hz, hcodes] at hk'
        rcases List.mem_append.mp hk' with q | q
        · rcases List.mem_append.mp q with q | q
          · exact v.sg _ mem k (List.mem_of_mem_take q)
          · exact hk k q
        · exact v.sg _ mem k (List.mem_of_mem_drop q)
    · exact v.sg z (List.mem_of_mem_drop hz) k hk'
end L2

set_option Elab.async false
set_option linter.all false
set_option maxRecDepth 100000
namespace L2
open PySem PySem.Spec PyProof.Rows
/-! ## Views as the program holds them -/
def rowB (z : Str) (n : Int) : Bool := decide ((z.length : Int) = n) && z.cps.toList.all (inS "#012345678")
def viewB : List Str → Bool
  | [] => false
  | z :: zs => decide ((z :: zs).length ≤ 6) && decide (1 ≤ z.length ∧ z.length ≤ 6) && (z :: zs).all fun r => rowB r z.length
theorem viewB_cons {z : Str} {zs : List Str} (h1 : (z :: zs).length ≤ 6) (h2 : 1 ≤ z.length) (h3 : z.length ≤ 6) : viewB (z :: zs) = (z :: zs).all fun r => rowB r z.length := by
  show (decide ((z :: zs).length ≤ 6) && decide (1 ≤ z.length ∧ z.length ≤ 6) && _) = _
  rw [decide_eq_true h1, decide_eq_true (And.intro h2 h3)]; rfl
theorem viewB_long {z : Str} {zs : List Str} (h1 : ¬ (z :: zs).length ≤ 6) : viewB (z :: zs) = false := by
  show (decide ((z :: zs).length ≤ 6) && _ && _) = _
  rw [decide_eq_false h1]; rfl
theorem viewB_wide {z : Str} {zs : List Str} (h1 : ¬ (1 ≤ z.length ∧ z.length ≤ 6)) : viewB (z :: zs) = false := by
  show (_ && decide (1 ≤ z.length ∧ z.length ≤ 6) && _) = _
  rw [decide_eq_false h1, Bool.and_false]; rfl
theorem Vw.ok {zs : List Str} {w : Nat} (v : Vw zs w) : viewB zs = true := by
  obtain ⟨z, zt, rfl, hz⟩ := v.toRect.head
  rw [viewB_cons v.le (by have := v.w1; omega) (by have := v.w6; omega), List.all_eq_true]
  intro r hr
  unfold rowB
  rw [decide_eq_true (by rw [v.len r hr, hz]), Bool.true_and, List.all_eq_true]
  intro c hc
  rw [inS_all]; exact v.sg r hr c hc
def fView (l : Addr) (h w : Int) : List (Str × V) := putF "width" (.int w) (putF "height" (.int h) (putF "rows" (.ref l) []))
theorem f_rows (l : Addr) (h w : Int) : (fView l h w).lookup ("rows" : Str) = some (.ref l) := by
  unfold fView; rw [lookup_putF, if_neg (by decide +kernel), lookup_putF, if_neg (by decide +kernel), lookup_putF, if_pos rfl]
theorem f_height (l : Addr) (h w : Int) : (fView l h w).lookup ("height" : Str) = some (.int h) := by
  unfold fView; rw [lookup_putF, if_neg (by decide +kernel), lookup_putF, if_pos rfl]
theorem f_width (l : Addr) (h w : Int) : (fView l h w).lookup ("width" : Str) = some (.int w) := by
  unfold fView; rw [lookup_putF, if_pos rfl]
/-- a view of the rows zs stands at x -/
structure ViewAt (C : Addr) (H : Hp) (x : Addr) (zs : List Str) (w : Nat) : Prop where
  ob : ∃ dx l, H x = some (.ins C dx (fView l zs.length w)) ∧ H l = some (.lst (zs.map V.str))
  vw : Vw zs w
theorem ViewAt.mono {C : Addr} {H H' : Hp} {x : Addr} {zs : List Str} {w : Nat} (v : ViewAt C H x zs w) (s : Same H H') : ViewAt C H' x zs w := let ⟨dx, l, a, b⟩ := v.ob; ⟨⟨dx, l, s _ _ a, s _ _ b⟩, v.vw⟩
/-! ### closed cells -/
def closedB (zs : List Str) (w : Nat) (x : Cell) : Bool := decide (inF zs.length w x) && decide (codeAt zs (x.1.toNat, x.2.toNat) = 35)
def closedL (zs : List Str) (w : Nat) : List Cell := (fieldL zs.length w).filter (closedB zs w)
theorem closed_cells (zs : List Str) (w : Nat) : closedL zs w = cellsL zs w "#" := by
  unfold closedL cellsL fieldL
  rw [List.filter_flatMap]
  have key : ∀ r ∈ List.range zs.length, ((List.range w).map fun c : Nat => ((r : Int), (c : Int))).filter (closedB zs w) = ((List.range w).filter fun c => inS "#" (codeAt zs (r, c))).map fun c : Nat => ((r : Int), (c : Int)) := by
    intro r hr
    rw [List.filter_map]
    congr 1
    refine List.filter_congr fun c hc => ?_
    rw [List.mem_range] at hr hc
    show closedB zs w ((r : Int), (c : Int)) = _
    unfold closedB
    rw [inS_hash, decide_eq_true (show inF zs.length w ((r : Int), (c : Int)) from ⟨⟨by show (0 : Int) ≤ (r : Int); omega, by show (r : Int) < zs.length; omega⟩, ⟨by show (0 : Int) ≤ (c : Int); omega, by show (c : Int) < w; omega⟩⟩), Bool.true_and]
    rfl
  have go : ∀ l : List Nat, (∀ r ∈ l, r ∈ List.range zs.length) → l.flatMap (fun r : Nat => ((List.range w).map fun c : Nat => ((r : Int), (c : Int))).filter (closedB zs w)) = l.flatMap (fun r : Nat => ((List.range w).filter fun c => inS "#" (codeAt zs (r, c))).map fun c : Nat => ((r : Int), (c : Int))) := by
    intro l
    induction l with
    | nil => intro _; rfl
    | cons a l ih => intro h; rw [List.flatMap_cons, List.flatMap_cons, key a (h a List.mem_cons_self), ih fun r hr => h r (List.mem_cons_of_mem _ hr)]
  exact go _ fun r hr => hr
theorem mem_closed {zs : List Str} {w : Nat} {x : Cell} : x ∈ closedL zs w ↔ closedB zs w x = true := by
  unfold closedL
  rw [List.mem_filter, mem_field]
  constructor
  · exact fun h => h.2
  · intro h
    refine ⟨?_, h⟩
    unfold closedB at h
    rw [Bool.and_eq_true] at h
    exact of_decide_eq_true h.1
/-! ### near, as the program goes through it -/
def nearRow (w : Nat) (x : Cell) (r : Int) : List Cell := ((List.range ((min (x.2 + 2) w) - (max (x.2 - 1) 0)).toNat).map fun k : Nat => (r, max (x.2 - 1) 0 + (k : Int))).filter fun y => !decide (y = x)
def pnearN (w : Nat) (x : Cell) (lo : Int) (n : Nat) : List Cell := (List.range n).flatMap fun k : Nat => nearRow w x (lo + (k : Int))
def pnearL (h w : Nat) (x : Cell) : List Cell := pnearN w x (max (x.1 - 1) 0) ((min (x.1 + 2) h) - (max (x.1 - 1) 0)).toNat
theorem pnear_all : ∀ h ∈ List.range 7, ∀ w ∈ List.range 7, ∀ r ∈ List.range h, ∀ c ∈ List.range w, pnearL h w ((r : Int), (c : Int)) = lnear h w ((r : Int), (c : Int)) := by decide +kernel
theorem pnear_eq {h w : Nat} {x : Cell} (h6 : h ≤ 6) (w6 : w ≤ 6) (hx : inF h w x) : pnearL h w x = lnear h w x := by
  obtain ⟨⟨a, b⟩, ⟨c, d⟩⟩ := hx
  have := pnear_all h (List.mem_range.mpr (by omega)) w (List.mem_range.mpr (by omega)) x.1.toNat (List.mem_range.mpr (by omega)) x.2.toNat (List.mem_range.mpr (by omega))
  have e : (((x.1.toNat : Nat) : Int), ((x.2.toNat : Nat) : Int)) = x := Prod.ext (by show ((x.1.toNat : Nat) : Int) = x.1; omega) (by show ((x.2.toNat : Nat) : Int) = x.2; omega)
  rw [e] at this; exact this
theorem lnear_sub {h w : Int} {x : Cell} : (lnear h w x).length ≤ 8 := lnear_len h w x
/-- the open cells near -/
def openNear (zs : List Str) (w : Nat) (x : Cell) : List Cell := (lnear zs.length w x).filter fun y => !closedB zs w y
def closedNear (zs : List Str) (w : Nat) (x : Cell) : List Cell := (lnear zs.length w x).filter fun y => closedB zs w y
theorem edge_eq (zs : List Str) (w : Nat) : ((closedL zs w).filter fun x => decide (0 < (openNear zs w x).length)) = (cellsL zs w "#").filter fun x => decide (0 < ((lnear zs.length w x).filter fun y => !decide (y ∈ cellsL zs w "#")).length) := by
  rw [closed_cells]
  refine List.filter_congr fun x _ => ?_
  unfold openNear
  have : ((lnear zs.length w x).filter fun y => !closedB zs w y) = (lnear zs.length w x).filter fun y => !decide (y ∈ cellsL zs w "#") := by
    refine List.filter_congr fun y _ => ?_
    rw [← closed_cells]
    congr 1
    by_cases h : closedB zs w y = true
    · rw [h, decide_eq_true (mem_closed.mpr h)]
    · rw [Bool.eq_false_iff.mpr h, decide_eq_false fun z => h (mem_closed.mp z)]
  rw [this]
end L2

set_option Elab.async false
set_option linter.all false
set_option maxRecDepth 100000
namespace L2
open PySem PySem.Spec PyProof.Rows PySem.W
/-! ## sorted, of what is in order already -/
theorem asc_wp {cmp : Nat → Nat → (Bool → Shared → Prop) → Shared → Prop} {Q : Nat → Shared → Prop} {s : Shared} {N : Nat} (h : ∀ i, 1 ≤ i → i < N → ∀ C : Bool → Shared → Prop, C false s → cmp i (i - 1) C s) :
    ∀ f n, n + f = N → 1 ≤ n → Q N s → (kas_asc (List.range N).toArray f n).kasWp cmp Q s := by
  intro f
  induction f with
  | zero =>
    intro n e _ q
    have : n = N := by omega
    subst this
    exact q
  | succ f ih =>
    intro n e h1 q
    have e1 : (List.range N).toArray.getD n 0 = n := by
      have hn : n < N := by omega
      simp [Array.getD, hn]
    have e2 : (List.range N).toArray.getD (n - 1) 0 = n - 1 := by
      have hn : n - 1 < N := by omega
      simp [Array.getD, hn]
    show cmp ((List.range N).toArray.getD n 0) ((List.range N).toArray.getD (n - 1) 0) _ s
    rw [e1, e2]
    refine h n h1 (by omega) _ ?_
    show (if false = true then KasT.ret n else kas_asc (List.range N).toArray f (n + 1)).kasWp cmp Q s
    rw [if_neg Bool.false_ne_true]
    exact ih (n + 1) (by omega) (by omega) q
theorem sort_wp {cmp : Nat → Nat → (Bool → Shared → Prop) → Shared → Prop} {Q : Array Nat → Shared → Prop} {s : Shared} {N : Nat} (h2 : 1 ≤ N) (h : ∀ i, 1 ≤ i → i < N → ∀ C : Bool → Shared → Prop, C false s → cmp i (i - 1) C s) (q : Q (List.range N).toArray s) :
    (kas_sort N).kasWp cmp Q s := by
  unfold kas_sort kas_count
  rw [KasT.kasWp_bind, KasT.kasWp_bind]
  refine asc_wp h (N - 1) 1 (by omega) (Nat.le_refl _) ?_
  rw [if_pos (by simp)]
  show (if N < N then _ else KasT.ret (List.range N).toArray).kasWp cmp Q s
  rw [if_neg (Nat.lt_irrefl _)]
  exact q
section
variable {prog : Program} {w : World} {A : Around} {E : Value → Shared → Prop} {s : Shared}
/-- nothing of the heap is lost -/
abbrev Keeps (h h' : Heap) : Prop := ∀ b o, h.get? b = some o → h'.get? b = some o
structure Rising (prog : Program) (w : World) (h : Heap) (vs : List Value) : Prop where
  ex : 2 ≤ vs.length → ∃ κ : SortKind, (∀ (A' : Around) (E' : Value → Shared → Prop) (s' : Shared) (Q' : SortKind → Shared → Prop), Keeps h s'.heap → Q' κ s' → wpAny (model prog w) A' (keyKind' vs.toArray) Q' E' s') ∧
    ∀ (A' : Around) (s' : Shared) (i : Nat) (C : Bool → Shared → Prop), A'.units + 2 < cLine → Keeps h s'.heap → 1 ≤ i → i < vs.length → C false s' → wpAny (model prog w) A' (keyLt' κ (vs.getD i Value.none) (vs.getD (i - 1) Value.none)) C (fun _ _ => False) s'
theorem rising_sort {a : Addr} {vs : List Value} {n : Nat} {h0 : Heap} {P : PySem.Fin → Shared → Prop} (hu : A.units + 2 < cLine) (hr : Rising prog w h0 vs) (h64 : vs.length < 64) (ho : s.heap.get? a = some (seqObj "list" vs.toArray n)) (hk : ∀ b o, h0.get? b = some o → s.heap.get? b = some o ∧ b ≠ a)
    (h : P (.done (.ret .none)) { s with heap := sortedHeap s.heap a vs vs.toArray }) : wpAny (model prog w) A (Builtin.«list.sort» ⟨[.ref a], []⟩) P E s := by
  rw [list_sort_plain]
  have ha : a < s.heap.objs.size := Heap.lt_size ho
  have hz : vs.length ≤ sizeLine := by rw [sizeLine_eq]; omega
  refine wpAny_bind (listItems_at ho rfl (wpAny_bind (listUpdate_at ho rfl ?_ (by show vs.toArray.size ≤ _; rw [List.size_toArray]; omega) (by show (#[] : Array Value).size ≤ _; simp))))
  have ho1 := get?_update_seq ho (fun _ => #[])
  refine wpAny_bind (seqEpoch_at ho1 rfl (wpAny_bind (wpAny_newTuple (wpAny_bind (wpAny_newList (wpAny_holding ?_) (by simp))) (by simpa using hz))))
  show wpAny (model prog w) A _ P E { s with heap := ((s.heap.update a (Obj.mapSeq fun _ => #[])).push (seqObj "tuple" vs.toArray 0)).push (seqObj "list" #[] 0) }
  have ho6 : (((s.heap.update a (Obj.mapSeq fun _ => #[])).push (seqObj "tuple" vs.toArray 0)).push (seqObj "list" #[] 0)).get? a = some _ := Heap.get?_push_of_some _ (Heap.get?_push_of_some _ ho1)
  have kp : Keeps h0 (((s.heap.update a (Obj.mapSeq fun _ => #[])).push (seqObj "tuple" vs.toArray 0)).push (seqObj "list" #[] 0)) := fun b o e => by
    obtain ⟨e1, e2⟩ := hk b o e
    refine Heap.get?_push_of_some _ (Heap.get?_push_of_some _ ?_)
    rw [Heap.get?_update_ne _ _ _ _ e2]; exact e1
  dsimp only
  by_cases h2 : vs.toArray.size < 2
  · rw [if_pos h2, if_pos h2]
    refine wpAny_bind (wpAny_pure ?_)
    rw [StateT.run_pure]
    refine wpAny_bind (wpAny_pure ?_)
    dsimp only
    have eo : (arrOf (SortSt.mk' general' (vs.toArray.zip vs.toArray) #[] 7 none)).map (·.2) = vs.toArray := by
      show (vs.toArray.zip vs.toArray).map (·.2) = _
      apply Array.toList_inj.mp
      simp [List.map_snd_zip]
    refine wpAny_bind (seqEpoch_at ho6 rfl ?_)
    rw [eo]
    refine wpAny_bind (listUpdate_at ho6 rfl ?_ (by simp) (by rw [List.size_toArray]; omega))
    simp only [bne_self_eq_false, Bool.false_eq_true, if_false]
    exact wpAny_pure h
  · rw [if_neg h2, if_neg h2]
    have h2' : 2 ≤ vs.length := by simpa using h2
    obtain ⟨κ, hkind, hless⟩ := hr.ex h2'
    refine wpAny_bind (hkind _ _ _ _ kp ?_)
    refine wpAny_bind (wpAny_mono (kat_run (ks := vs) (vs := vs) (κ := κ) (E := E) (Q := fun st' s' => (arrOf st').map (·.2) = vs.toArray ∧ failedOf st' = none ∧ s' = { s with heap := ((s.heap.update a (Obj.mapSeq fun _ => #[])).push (seqObj "tuple" vs.toArray 0)).push (seqObj "list" #[] 0) })
      (G := fun p s' => p = (List.range vs.length).toArray ∧ s' = { s with heap := ((s.heap.update a (Obj.mapSeq fun _ => #[])).push (seqObj "tuple" vs.toArray 0)).push (seqObj "list" #[] 0) }) rfl h2' h64 (fun p st' s' hp har hf hG => ⟨?_, hf, hG.2⟩) (sort_wp (by omega) (fun i h1 hi C hC => ?_) ⟨rfl, rfl⟩)) ?_ fun _ _ e => e)
    · rw [kat_snds rfl har, hG.1]
      congr 1
      refine List.ext_getElem? fun i => ?_
      simp only [List.getElem?_map]
      by_cases hi : i < vs.length
      · simp [hi, List.getD_eq_getElem?_getD]
      · simp [hi]
    · exact hless A _ i C hu kp h1 hi hC
    · rintro ⟨⟨⟩, st'⟩ s' ⟨eo, hf, rfl⟩
      dsimp only
      dsimp only at eo hf
      refine wpAny_bind (seqEpoch_at ho6 rfl ?_)
      rw [eo]
      refine wpAny_bind (listUpdate_at ho6 rfl ?_ (by simp) (by rw [List.size_toArray]; omega))
      rw [hf]
      simp only [bne_self_eq_false, Bool.false_eq_true, if_false]
      exact wpAny_pure h
theorem rising_sorted {l : Addr} {vs : List Value} {Q : Value → Shared → Prop} (hu : A.units + 10 < cLine) (hr : Rising prog w s.heap vs) (h64 : vs.length < 64) (hl : s.heap.IsList l vs.toArray)
    (h : Q (.ref (s.heap.objs.size + 1)) { s with heap := sortedAll s.heap vs vs.toArray }) : wpAny (model prog w) A (call (.builtin "sorted") [.ref l]) Q E s := by
  have hz : vs.length ≤ sizeLine := by rw [sizeLine_eq]; omega
  refine Calls.call_function_entry kind_sorted plain_sorted entry_sorted (args_sorted1 _) ?_
  unfold Builtin.«sorted»
  refine wpAny_bind (m := checkCount "sorted" 1 1 _) (wpAny_pure (wpAny_bind (collect_list hl ?_ hz)))
  refine wpAny_bind (wpAny_newList ?_ (by simpa using hz))
  have e1 : ((s.heap.push (seqObj "list" #[] 0)).update s.heap.objs.size (Obj.mapSeq (· ++ vs.toArray))).objs.size = s.heap.objs.size + 1 := by rw [Heap.size_update, size_push']
  have e2 : (((s.heap.push (seqObj "list" #[] 0)).update s.heap.objs.size (Obj.mapSeq (· ++ vs.toArray))).push (seqObj "list" vs.toArray 0)).get? (s.heap.objs.size + 1) = some (seqObj "list" vs.toArray 0) := by
    rw [← e1]; exact Heap.get?_push_size _ rfl
  show wpAny _ _ _ _ _ { s with heap := ((s.heap.push (seqObj "list" #[] 0)).update s.heap.objs.size (Obj.mapSeq (· ++ vs.toArray))).push (seqObj "list" vs.toArray 0) }
  rw [e1]
  refine wpAny_bind (wpAny_holding (wpAny_call_entry slot_list_sort ⟨_, e2, rfl⟩ entry_list_sort (rising_sort (h0 := s.heap) (by show A.units + 1 + 1 + 2 < cLine; omega) hr h64 e2 (fun b o e => ⟨?_, Nat.ne_of_lt (Nat.lt_succ_of_lt (Heap.lt_size e))⟩) ⟨_, rfl, wpAny_pure ⟨_, rfl, h⟩⟩) (args_list_sort _)))
  have hlt : b < s.heap.objs.size := Heap.lt_size e
  refine Heap.get?_push_of_some _ ?_
  rw [Heap.get?_update_ne _ _ _ _ (Nat.ne_of_lt hlt)]
  exact Heap.get?_push_of_some _ e
end

/-! ### cells in rising order -/
def cellLt (a b : Cell) : Prop := a.1 < b.1 ∨ (a.1 = b.1 ∧ a.2 < b.2)
instance (a b : Cell) : Decidable (cellLt a b) := by unfold cellLt; infer_instance
section
variable {X : Cx}
/-- a cell's object, whatever is added -/
theorem cell_obj {pins : List (Addr × Obj)} {σ : L2.St} {H : Hp} {s : Shared} {v : V} {u : Value} {c : Cell} (I : Inv X pins σ H s) (d : Den X.K H v (cellD c)) (r : RelV v u) : ∃ (a : Addr) (o : Obj) (t t' : Tok) (n : Nat), u = .ref a ∧ s.heap.get? a = some o ∧ o.cls = .type "tuple" ∧ o.data = .seq #[.int c.1 t, .int c.2 t'] n := by
  obtain ⟨a, rfl, ht, _⟩ := cell_ref d
  cases r
  obtain ⟨its, rv, ⟨o, e, hc, n, hd⟩, _⟩ := I.tuple ht
  obtain ⟨u1, u2, rfl, ⟨t, rfl⟩, ⟨t', rfl⟩⟩ := vals2 rv
  exact ⟨a, o, t, t', n, rfl, e, hc, hd⟩
theorem cells_rising {pins : List (Addr × Obj)} {σ : L2.St} {H : Hp} {s : Shared} {vs : List V} {us : List Value} {cs : List Cell} (I : Inv X pins σ H s) (D : Dens X.K H vs (cs.map cellD)) (r : Vals vs us) (hs : cs.Pairwise cellLt) : Rising X.prog X.w s.heap us := by
  have hl : us.length = cs.length := by rw [← r.length, D.length, List.length_map]
  have at_ : ∀ i, (hi : i < cs.length) → ∃ (a : Addr) (o : Obj) (t t' : Tok) (n : Nat), us.getD i Value.none = .ref a ∧ s.heap.get? a = some o ∧ o.cls = .type "tuple" ∧ o.data = .seq #[.int cs[i].1 t, .int cs[i].2 t'] n := fun i hi => by
    have hv : i < vs.length := by rw [r.length, hl]; exact hi
    have ev : vs[i]? = some vs[i] := by simp [hv]
    obtain ⟨u, eu, ru⟩ := r.get ev
    obtain ⟨d, ed, dd⟩ := D.get ev
    rw [List.getElem?_map, List.getElem?_eq_getElem hi] at ed
    cases ed
    obtain ⟨a, o, t, t', n, rfl, h1, h2, h3⟩ := cell_obj I dd ru
    exact ⟨a, o, t, t', n, by rw [List.getD_eq_getElem?_getD, eu]; rfl, h1, h2, h3⟩
  refine ⟨fun h2 => ⟨tuples' true, fun A' E' s' Q' kp q => ?_, fun A' s' i C hu kp h1 hi hC => ?_⟩⟩
  · -- the keys are tuples whose firsts are ints
    have kt : ∀ (cs : List Cell) (us : List Value), us.length = cs.length → (∀ i, (hi : i < cs.length) → ∃ (a : Addr) (o : Obj) (t t' : Tok) (n : Nat), us.getD i Value.none = .ref a ∧ s.heap.get? a = some o ∧ o.cls = .type "tuple" ∧ o.data = .seq #[.int cs[i].1 t, .int cs[i].2 t'] n) →
        ∃ fs : List Value, fs.length = us.length ∧ (∀ f ∈ fs, ∃ i t, f = Value.int i t) ∧ KatTups s'.heap us fs := by
      intro cs
      induction cs with
      | nil =>
        intro us e _
        cases us with
        | nil => exact ⟨[], rfl, (fun f hf => by cases hf), .nil⟩
        | cons a b => simp at e
      | cons c cs ih =>
        intro us e h
        cases us with
        | nil => simp at e
        | cons u us =>
          obtain ⟨a, o, t, t', n, e1, e2, e3, e4⟩ := h 0 (by simp)
          have eu : u = .ref a := e1
          subst eu
          obtain ⟨fs, f1, f2, f3⟩ := ih us (by simpa using e) fun i hi => by
            have := h (i + 1) (by simpa using hi)
            simpa using this
          refine ⟨.int c.1 t :: fs, by simp [f1], fun f hf => ?_, KatTups.cons (kp _ _ e2) e3 e4 rfl f3⟩
          rcases List.mem_cons.mp hf with z | z
          · exact ⟨_, _, z⟩
          · exact f2 f z
    obtain ⟨fs, f1, f2, f3⟩ := kt cs us hl at_
    refine kat_kind (T := .type "int") f3 (by omega) (fun v hv => ?_) (by decide) ?_
    · obtain ⟨i, t, rfl⟩ := f2 v hv
      exact Looks.of_pure rfl
    · exact q
  · obtain ⟨a, o, t, t', n, e1, e2, e3, e4⟩ := at_ i (by omega)
    obtain ⟨b, o2, t2, t2', n2, g1, g2, g3, g4⟩ := at_ (i - 1) (by omega)
    rw [e1, g1]
    refine kat_lt (kp _ _ e2) e4 (kp _ _ g2) g4 ?_
    have hlt : cellLt cs[i - 1] cs[i] := (List.pairwise_iff_getElem.mp hs) (i - 1) i (by omega) (by omega) (by omega)
    refine kat_cons (wpAny_eqBool_int ?_)
    by_cases q1 : cs[i].1 = cs[i - 1].1
    · rw [show (cs[i].1 == cs[i - 1].1) = true from beq_iff_eq.mpr q1]
      refine kat_yes (kat_cons (wpAny_eqBool_int ?_))
      have q2 : cs[i].2 ≠ cs[i - 1].2 := by
        rcases hlt with z | ⟨_, z⟩ <;> omega
      rw [show (cs[i].2 == cs[i - 1].2) = false from beq_eq_false_iff_ne.mpr q2]
      refine kat_no (kat_one _ _ (lt_int ?_))
      have q3 : ¬ cs[i].2 < cs[i - 1].2 := by rcases hlt with z | ⟨_, z⟩ <;> omega
      rw [decide_eq_false q3]
      exact hC
    · rw [show (cs[i].1 == cs[i - 1].1) = false from beq_eq_false_iff_ne.mpr q1]
      refine kat_no (oneLt_int ?_)
      have q3 : ¬ cs[i].1 < cs[i - 1].1 := by rcases hlt with z | ⟨z, _⟩ <;> omega
      rw [decide_eq_false q3]
      exact hC
/-- sorted(xs), xs a rising list of cells -/
def rSortA (K : PySem.W.Frag) : List V → Hp → VK → Prop := fun xs H Q => ∃ (p : Addr) (vs : List V) (cs : List Cell), xs = [.ref p] ∧ SqL K H p vs ∧ Dens K H vs (cs.map cellD) ∧ cs.length < 64 ∧ cs.Pairwise cellLt ∧ ∀ l, H l = none → Q (.ref l) (upd H l (.lst vs))
theorem call_sortA (hu : X.A.units + 60 < cLine) : CallR X (.builtin "sorted") (rSortA X.K) := by
  intro pins s σ H xs us Q I r h
  obtain ⟨p, vs, cs, rfl, hS, D, h64, hs, q⟩ := h
  obtain ⟨u, rfl, ru⟩ := vals1 r
  cases ru
  obtain ⟨its, rv, pl, hz⟩ := I.list hS
  have hl : its.length = cs.length := by rw [← rv.length, D.length, List.length_map]
  refine rising_sorted (by omega) (cells_rising I D rv hs) (by omega) pl.isList ?_
  obtain ⟨e, he⟩ := sortedAll_at s.heap its its.toArray
  have hn : H (s.heap.objs.size + 1) = none := I.hok.fresh (Nat.le_succ _)
  exact ⟨.ref (s.heap.objs.size + 1), upd H (s.heap.objs.size + 1) (.lst vs), I.laid (a := s.heap.objs.size + 1) (o := .lst vs) (t' := s.toks) (fun b o q => sortedAll_old q) (Nat.le_succ _) ⟨hz, its, e, rv, he⟩, rfl, q _ hn⟩
end
end L2

set_option Elab.async false
set_option linter.all false
set_option maxRecDepth 100000
namespace L2
open PySem PySem.Spec PyProof.Rows
section
variable {X : Cx} {K : PySem.W.Frag}
/-! ## is True, is not True; isinstance of what is read; sorted -/
theorem op_isB : OpR X (compareOp .Is) (fun x y H Q => ∃ a b, x = .bl a ∧ y = .bl b ∧ Q (.bl (decide (a = b))) H) := by
  intro pins s σ H x y v u Q I rx ry h
  obtain ⟨a, b, rfl, rfl, q⟩ := h
  cases rx
  cases ry
  refine wpAny_is_plain (by cases a <;> cases b <;> rfl) (fin_bl I q ?_)
  cases a <;> cases b <;> rfl
theorem op_notB : OpR X (compareOp .IsNot) (fun x y H Q => ∃ a b, x = .bl a ∧ y = .bl b ∧ Q (.bl (!decide (a = b))) H) := by
  intro pins s σ H x y v u Q I rx ry h
  obtain ⟨a, b, rfl, rfl, q⟩ := h
  cases rx
  cases ry
  refine wpAny_isNot_plain (by cases a <;> cases b <;> rfl) (fin_bl I q ?_)
  cases a <;> cases b <;> rfl
def rIsiS (K : PySem.W.Frag) : List V → Hp → VK → Prop := fun xs H Q => ∃ x c cv, xs = [x, c] ∧ clsV c = some cv ∧ ∃ (a : Addr) (ys : List V) (b : Bool), x = .ref a ∧
  ((SqT K H a ys ∧ PySem.W.kitOne K (.type "tuple") cv = some b) ∨ (SqL K H a ys ∧ PySem.W.kitOne K (.type "list") cv = some b)) ∧ Q (.bl b) H
theorem call_isiS : CallR X (.builtin "isinstance") (rIsiS X.K) := by
  intro pins s σ H xs us Q I r h
  obtain ⟨x, c, cv, rfl, hc, a, ys, b, rfl, h, q⟩ := h
  obtain ⟨u, u', rfl, ru, rc⟩ := vals2 r
  have e := clsV_is hc rc
  subst e
  cases ru
  rcases h with ⟨ht, hk⟩ | ⟨ht, hk⟩
  · obtain ⟨its, _, ⟨o, e1, e2, _⟩, _⟩ := I.tuple ht
    exact PySem.W.kia_one PySem.W.kitx_tuple I.kIn ⟨o, e1, e2⟩ hk (by intro z; cases z) fun tk => ⟨.bl b, H, I.tok tk, rfl, q⟩
  · obtain ⟨its, _, ⟨o, n, e1, e2, _⟩, _⟩ := I.list ht
    exact PySem.W.kia_one PySem.W.kitx_list I.kIn ⟨o, e1, e2⟩ hk (by intro z; cases z) fun tk => ⟨.bl b, H, I.tok tk, rfl, q⟩
theorem k_isiG (hK : X.K = K := by rfl) : CallR X (.builtin "isinstance") (fun xs H Q => rIsi K xs H Q ∨ rIsiS K xs H Q) := by subst hK; exact call_isi.or call_isiS
theorem k_sortA (hu : X.A.units + 60 < cLine) (hK : X.K = K := by rfl) : CallR X (.builtin "sorted") (rSortA K) := by subst hK; exact call_sortA hu
end
end L2

set_option Elab.async false
set_option linter.all false
set_option maxRecDepth 100000
namespace L2
open PySem PySem.Spec PyProof.Rows PySem.W
/-! ## sorted, of what is in any order, fewer than 64 -/
structure Ordr {α : Type} (lt : α → α → Bool) : Prop where
  asym : ∀ a b, lt a b = true → lt b a = false
  tr : ∀ a b c, lt b a = false → lt c b = false → lt c a = false
  anti : ∀ a b, lt a b = false → lt b a = false → a = b
theorem Ordr.refl {α : Type} {lt : α → α → Bool} (o : Ordr lt) (a : α) : lt a a = false := by
  cases h : lt a a
  · rfl
  · rw [← h]; exact o.asym a a h ▸ rfl
structure Good (N : Nat) (p : Array Nat) : Prop where
  perm : p.toList.Perm (List.range N)
theorem Good.size {N : Nat} {p : Array Nat} (g : Good N p) : p.size = N := by
  have := g.perm.length_eq
  simpa using this
theorem Good.lt {N : Nat} {p : Array Nat} (g : Good N p) (h : 1 ≤ N) (k : Nat) : p.getD k 0 < N := by
  by_cases hk : k < p.size
  · have : p.getD k 0 ∈ p.toList := by
      rw [Array.getD_eq_getD_getElem?, Array.getElem?_eq_getElem hk]
      exact Array.getElem_mem_toList hk
    exact List.mem_range.mp (g.perm.mem_iff.mp this)
  · rw [Array.getD_eq_getD_getElem?, Array.getElem?_eq_none (by omega)]
    exact h
theorem swap_perm {p : Array Nat} {i j : Nat} : (p.swapIfInBounds i j).toList.Perm p.toList := by
  unfold Array.swapIfInBounds
  split
  · split
    · exact (Array.swap_perm _ _).toList
    · exact .refl _
  · exact .refl _
theorem swap_get {p : Array Nat} {i j k : Nat} (hi : i < p.size) (hj : j < p.size) : (p.swapIfInBounds i j).getD k 0 = if k = i then p.getD j 0 else if k = j then p.getD i 0 else p.getD k 0 := by
  unfold Array.swapIfInBounds
  rw [dif_pos hi, dif_pos hj]
  simp only [Array.getD_eq_getD_getElem?, Array.getElem?_swap]
  by_cases h1 : k = i
  · subst h1
    by_cases h2 : k = j
    · subst h2; simp [hi]
    · simp [hi, hj, h2, Ne.symm h2]
  · by_cases h2 : k = j
    · subst h2; simp [hi, hj, h1]
    · simp [h1, h2, Ne.symm h1, Ne.symm h2]
theorem fold_perm {g h : Nat → Nat} : ∀ (ks : List Nat) (p : Array Nat), (ks.foldl (fun a k => a.swapIfInBounds (g k) (h k)) p).toList.Perm p.toList
  | [], p => .refl _
  | k :: ks, p => by
    rw [List.foldl_cons]
    exact (fold_perm ks _).trans swap_perm
theorem rev_good {N : Nat} {p : Array Nat} {i j : Nat} (g : Good N p) : Good N (kas_rev p i j) := ⟨(fold_perm _ _).trans g.perm⟩
theorem bub_good {N : Nat} {p : Array Nat} {i j : Nat} (g : Good N p) : Good N (bubble p i j) := ⟨(fold_perm _ _).trans g.perm⟩
theorem mir_get {p : Array Nat} {i j : Nat} (hj : j ≤ p.size) : ∀ d, 2 * d ≤ j - i → ∀ k, (mirror p i j d).getD k 0 = if (i ≤ k ∧ k < i + d) ∨ (j - d ≤ k ∧ k < j) then p.getD (i + j - 1 - k) 0 else p.getD k 0 := by
  intro d
  induction d with
  | zero =>
    intro _ k
    rw [if_neg (by omega)]; rfl
  | succ d ih =>
    intro hd k
    have e : mirror p i j (d + 1) = (mirror p i j d).swapIfInBounds (i + d) (j - 1 - d) := by
      unfold mirror; rw [List.range_succ, List.foldl_append]; rfl
    have sz : (mirror p i j d).size = p.size := mirror_size _ _ _ _
    rw [e, swap_get (by omega) (by omega)]
    have ih' := ih (by omega)
    by_cases h1 : k = i + d
    · rw [if_pos h1, ih', if_neg (by omega), if_pos (by omega)]
      congr 1; omega
    · rw [if_neg h1]
      by_cases h2 : k = j - 1 - d
      · rw [if_pos h2, ih', if_neg (by omega), if_pos (by omega)]
        congr 1; omega
      · rw [if_neg h2, ih']
        by_cases h3 : (i ≤ k ∧ k < i + d) ∨ (j - d ≤ k ∧ k < j)
        · rw [if_pos h3, if_pos (by omega)]
        · rw [if_neg h3, if_neg (by omega)]
theorem rev_get {p : Array Nat} {i j : Nat} (hj : j ≤ p.size) (k : Nat) : (kas_rev p i j).getD k 0 = if i ≤ k ∧ k < j then p.getD (i + j - 1 - k) 0 else p.getD k 0 := by
  unfold kas_rev
  rw [mir_get hj _ (by omega)]
  by_cases h : i ≤ k ∧ k < j
  · rw [if_pos h]
    by_cases h2 : (i ≤ k ∧ k < i + (j - i) / 2) ∨ (j - (j - i) / 2 ≤ k ∧ k < j)
    · rw [if_pos h2]
    · rw [if_neg h2]
      congr 1
      omega
  · rw [if_neg h, if_neg (by omega)]
theorem bub_get {p : Array Nat} {r : Nat} (hr : r < p.size) : ∀ d, d ≤ r → ∀ k, (bubble p r d).getD k 0 = if k = r - d then p.getD r 0 else if r - d < k ∧ k ≤ r then p.getD (k - 1) 0 else p.getD k 0 := by
  intro d
  induction d with
  | zero =>
    intro _ k
    show p.getD k 0 = _
    by_cases h : k = r
    · rw [if_pos (by omega), h]
    · rw [if_neg (by omega), if_neg (by omega)]
  | succ d ih =>
    intro hd k
    have e : bubble p r (d + 1) = (bubble p r d).swapIfInBounds (r - d) (r - d - 1) := by
      unfold bubble; rw [List.range_succ, List.foldl_append]; rfl
    have sz : (bubble p r d).size = p.size := bubble_size _ _ _
    rw [e, swap_get (by omega) (by omega)]
    have ih' := ih (by omega)
    by_cases h1 : k = r - d
    · rw [if_pos h1, ih', if_neg (by omega), if_neg (by omega), if_neg (by omega), if_pos (by omega)]
      congr 1; omega
    · rw [if_neg h1]
      by_cases h2 : k = r - d - 1
      · rw [if_pos h2, ih', if_pos rfl, if_pos (by omega)]
      · rw [if_neg h2, ih', if_neg h1]
        by_cases h3 : r - d < k ∧ k ≤ r
        · rw [if_pos h3, if_neg (by omega), if_pos (by omega)]
        · rw [if_neg h3, if_neg (by omega), if_neg (by omega)]
section
variable {α : Type} {lt : α → α → Bool} {f : Nat → α} {N : Nat} {s : Shared} {cmp : Nat → Nat → (Bool → Shared → Prop) → Shared → Prop}
def Ky (f : Nat → α) (p : Array Nat) (i : Nat) : α := f (p.getD i 0)
def UpTo (lt : α → α → Bool) (f : Nat → α) (p : Array Nat) (n : Nat) : Prop := ∀ i, i + 1 < n → lt (Ky f p (i + 1)) (Ky f p i) = false
def DnTo (lt : α → α → Bool) (f : Nat → α) (p : Array Nat) (n : Nat) : Prop := ∀ i, i + 1 < n → lt (Ky f p i) (Ky f p (i + 1)) = false
theorem UpTo.le (o : Ordr lt) {p : Array Nat} {n : Nat} (u : UpTo lt f p n) : ∀ d i, i + d < n → lt (Ky f p (i + d)) (Ky f p i) = false := by
  intro d
  induction d with
  | zero => intro i _; exact o.refl _
  | succ d ih => intro i h; exact o.tr _ _ _ (ih i (by omega)) (u (i + d) (by omega))
def Asks (lt : α → α → Bool) (f : Nat → α) (N : Nat) (s : Shared) (cmp : Nat → Nat → (Bool → Shared → Prop) → Shared → Prop) : Prop := ∀ i j (C : Bool → Shared → Prop), i < N → j < N → C (lt (f i) (f j)) s → cmp i j C s
theorem wp_ask {β : Type} {Q : β → Shared → Prop} {k : Bool → KasT β} {i j : Nat} (hc : Asks lt f N s cmp) (hi : i < N) (hj : j < N) (h : (k (lt (f i) (f j))).kasWp cmp Q s) : (KasT.ask i j k).kasWp cmp Q s :=
  hc i j _ hi hj h
/-- a run that rises -/
theorem wp_asc (hc : Asks lt f N s cmp) {p : Array Nat} (g : Good N p) (hN : 1 ≤ N) {Q : Nat → Shared → Prop} : ∀ (fu n : Nat), n + fu ≤ N → 1 ≤ n → UpTo lt f p n →
    (∀ m, n ≤ m → m ≤ n + fu → UpTo lt f p m → (m < n + fu → lt (Ky f p m) (Ky f p (m - 1)) = true) → Q m s) → (kas_asc p fu n).kasWp cmp Q s := by
  intro fu
  induction fu with
  | zero =>
    intro n h h1 u q
    rw [kas_asc.eq_1]
    exact q n (Nat.le_refl _) (Nat.le_refl _) u (fun z => by omega)
  | succ fu ih =>
    intro n h h1 u q
    rw [kas_asc.eq_2]
    refine wp_ask hc (g.lt hN _) (g.lt hN _) ?_
    by_cases hb : lt (Ky f p n) (Ky f p (n - 1)) = true
    · have hb' : lt (f (p.getD n 0)) (f (p.getD (n - 1) 0)) = true := hb
      rw [hb', if_pos rfl]
      exact q n (Nat.le_refl _) (by omega) u (fun _ => hb)
    · have hb' : lt (f (p.getD n 0)) (f (p.getD (n - 1) 0)) = false := by
        cases h' : lt (f (p.getD n 0)) (f (p.getD (n - 1) 0))
        · rfl
        · exact absurd h' hb
      rw [hb', if_neg Bool.false_ne_true]
      refine ih (n + 1) (by omega) (by omega) (fun i hi => ?_) (fun m h2 h3 u' q' => q m (by omega) (by omega) u' fun z => q' (by omega))
      by_cases h4 : i + 1 < n
      · exact u i h4
      · have : i = n - 1 := by omega
        subst this
        have e : n - 1 + 1 = n := by omega
        rw [e]; exact hb'
theorem bool_no {b : Bool} (h : ¬ b = true) : b = false := by cases b <;> simp_all
def Eqs (f : Nat → α) (p : Array Nat) (a b : Nat) : Prop := ∀ i, a ≤ i → i < b → Ky f p i = Ky f p (b - 1)
theorem rev_eqs {p : Array Nat} {a b : Nat} (hb : b ≤ p.size) (e : Eqs f p a b) (i : Nat) : Ky f (kas_rev p a b) i = Ky f p i := by
  unfold Ky
  rw [rev_get hb]
  by_cases h : a ≤ i ∧ i < b
  · rw [if_pos h]
    exact (e (a + b - 1 - i) (by omega) (by omega)).trans (e i h.1 h.2).symm
  · rw [if_neg h]
theorem wp_desc (o : Ordr lt) (hc : Asks lt f N s cmp) (hN : 1 ≤ N) {Q : Array Nat × Nat × Nat → Shared → Prop} : ∀ (fu : Nat) (p : Array Nat) (n q : Nat), Good N p → n + fu ≤ N → q + 1 ≤ n → DnTo lt f p n → Eqs f p (n - (q + 1)) n →
    (∀ p' n' q', Good N p' → n ≤ n' → n' ≤ N → q' + 1 ≤ n' → DnTo lt f p' n' → Eqs f p' (n' - (q' + 1)) n' → Q (p', n', q') s) → (kas_desc fu p n q).kasWp cmp Q s := by
  intro fu
  induction fu with
  | zero =>
    intro p n q g h h1 d e hq
    rw [kas_desc.eq_1]
    exact hq p n q g (Nat.le_refl _) (by omega) h1 d e
  | succ fu ih =>
    intro p n q g h h1 d e hq
    rw [kas_desc.eq_2]
    have sz := g.size
    refine wp_ask hc (g.lt hN _) (g.lt hN _) ?_
    by_cases hb : lt (f (p.getD n 0)) (f (p.getD (n - 1) 0)) = true
    · rw [hb, if_pos rfl]
      have dn : ∀ p' : Array Nat, (∀ i, Ky f p' i = Ky f p i) → DnTo lt f p' (n + 1) := fun p' ep i hi => by
        rw [ep, ep]
        by_cases h4 : i + 1 < n
        · exact d i h4
        · have : i = n - 1 := by omega
          subst this
          have e1 : n - 1 + 1 = n := by omega
          rw [e1]; exact o.asym _ _ hb
      have eqs : ∀ p' : Array Nat, Eqs f p' (n + 1 - (0 + 1)) (n + 1) := fun p' i h1 h2 => by
        have : i = n + 1 - 1 := by omega
        rw [this]
      by_cases hq0 : q > 0
      · rw [if_pos hq0]
        exact ih _ _ _ (rev_good g) (by omega) (by omega) (dn _ (rev_eqs (by omega) e)) (eqs _) fun p' n' q' a1 a2 => hq p' n' q' a1 (by omega)
      · rw [if_neg hq0]
        exact ih _ _ _ g (by omega) (by omega) (dn _ fun _ => rfl) (eqs _) fun p' n' q' a1 a2 => hq p' n' q' a1 (by omega)
    · have hb0 := bool_no hb
      rw [hb0, if_neg Bool.false_ne_true]
      refine wp_ask hc (g.lt hN _) (g.lt hN _) ?_
      by_cases hd : lt (f (p.getD (n - 1) 0)) (f (p.getD n 0)) = true
      · rw [hd, if_pos rfl]
        exact hq p n q g (Nat.le_refl _) (by omega) h1 d e
      · have hd0 := bool_no hd
        rw [hd0, if_neg Bool.false_ne_true]
        have ek : Ky f p n = Ky f p (n - 1) := o.anti _ _ hb0 hd0
        refine ih _ _ _ g (by omega) (by omega) (fun i hi => ?_) (fun i h3 h4 => ?_) fun p' n' q' a1 a2 => hq p' n' q' a1 (by omega)
        · by_cases h4 : i + 1 < n
          · exact d i h4
          · have : i = n - 1 := by omega
            subst this
            have e1 : n - 1 + 1 = n := by omega
            rw [e1]; exact hd0
        · have e2 : n + 1 - 1 = n := by omega
          rw [e2]
          by_cases h5 : i = n
          · rw [h5]
          · rw [ek]; exact e i (by omega) (by omega)
theorem wp_tail3 (hc : Asks lt f N s cmp) (hN : 1 ≤ N) {Q : Nat × Array Nat → Shared → Prop} {p : Array Nat} {n : Nat} (g : Good N p) (h1 : 1 ≤ n) (hn : n ≤ N) (d : DnTo lt f p n) (hq : ∀ m p', Good N p' → 1 ≤ m → m ≤ N → UpTo lt f p' m → Q (m, p') s) : (kas_tail3 n N p).kasWp cmp Q s := by
  unfold kas_tail3
  rw [KasT.kasWp_bind]
  have sz := g.size
  refine wp_asc hc (rev_good g) hN _ _ (by omega) h1 (fun i hi => ?_) fun m a b u _ => hq m _ (rev_good g) (by omega) (by omega) u
  unfold Ky
  rw [rev_get (by omega), rev_get (by omega), if_pos (by omega), if_pos (by omega)]
  have := d (n - 1 - (i + 1)) (by omega)
  unfold Ky at this
  have e1 : 0 + n - 1 - (i + 1) = n - 1 - (i + 1) := by omega
  have e2 : 0 + n - 1 - i = n - 1 - (i + 1) + 1 := by omega
  rw [e1, e2]; exact this
theorem wp_descPart (o : Ordr lt) (hc : Asks lt f N s cmp) (hN : 1 ≤ N) {Q : Nat × Array Nat → Shared → Prop} {p : Array Nat} {n : Nat} (g : Good N p) (hn : n + 1 ≤ N) (d : DnTo lt f p (n + 1)) (hq : ∀ m p', Good N p' → 1 ≤ m → m ≤ N → UpTo lt f p' m → Q (m, p') s) : (kas_descPart n N p).kasWp cmp Q s := by
  unfold kas_descPart
  rw [KasT.kasWp_bind]
  refine wp_desc o hc hN _ _ _ _ g (by omega) (by omega) d (fun i a b => ?_) fun p' n' q' g' a b c d' e' => ?_
  · have : i = n + 1 - 1 := by omega
    rw [this]
  · have sz := g'.size
    dsimp only
    by_cases h : q' > 0
    · rw [if_pos h]
      refine wp_tail3 hc hN (rev_good g') (by omega) b (fun i hi => ?_) hq
      rw [rev_eqs (by omega) e', rev_eqs (by omega) e']
      exact d' i hi
    · rw [if_neg h]
      exact wp_tail3 hc hN g' (by omega) b d' hq
theorem wp_count (o : Ordr lt) (hc : Asks lt f N s cmp) (hN : 1 ≤ N) {Q : Nat × Array Nat → Shared → Prop} {p : Array Nat} (g : Good N p) (hq : ∀ m p', Good N p' → 1 ≤ m → m ≤ N → UpTo lt f p' m → Q (m, p') s) : (kas_count N p).kasWp cmp Q s := by
  unfold kas_count
  rw [KasT.kasWp_bind]
  have sz := g.size
  refine wp_asc hc g hN _ _ (by omega) (Nat.le_refl _) (fun i hi => by omega) fun m a b u l => ?_
  by_cases hm : m = N
  · rw [if_pos (by simpa using hm)]
    exact hq m p g a (by omega) u
  · rw [if_neg (by simpa using hm)]
    have hl := l (by omega)
    by_cases h1 : m > 1
    · rw [if_pos h1]
      refine wp_ask hc (g.lt hN _) (g.lt hN _) ?_
      by_cases hb : lt (f (p.getD 0 0)) (f (p.getD (m - 1) 0)) = true
      · rw [hb, if_pos rfl]
        exact hq m p g a (by omega) u
      · have hb0 := bool_no hb
        rw [hb0, if_neg Bool.false_ne_true]
        have e : Eqs f p 0 m := fun i _ hi => by
          have u1 := u.le o i 0 (by omega)
          rw [Nat.zero_add] at u1
          have u2 := u.le o (m - 1 - i) i (by omega)
          have e1 : i + (m - 1 - i) = m - 1 := by omega
          rw [e1] at u2
          have hb1 : lt (Ky f p 0) (Ky f p (m - 1)) = false := hb0
          exact o.anti _ _ (o.tr _ _ _ hb1 u1) u2
        refine wp_descPart o hc hN (rev_good g) (by omega) (fun i hi => ?_) hq
        rw [rev_eqs (by omega) e, rev_eqs (by omega) e]
        by_cases h4 : i + 1 < m
        · rw [e i (by omega) (by omega), e (i + 1) (by omega) h4]; exact o.refl _
        · have : i = m - 1 := by omega
          subst this
          have e1 : m - 1 + 1 = m := by omega
          rw [e1]; exact o.asym _ _ hl
    · rw [if_neg h1]
      refine wp_descPart o hc hN g (by omega) (fun i hi => ?_) hq
      have : i = m - 1 := by omega
      subst this
      have e1 : m - 1 + 1 = m := by omega
      rw [e1]; exact o.asym _ _ hl
theorem wp_place (o : Ordr lt) (hc : Asks lt f N s cmp) (hN : 1 ≤ N) {Q : Nat → Shared → Prop} {p : Array Nat} {k : Nat} (g : Good N p) (u : UpTo lt f p k) : ∀ (fu l r : Nat), l ≤ r → r ≤ k → r - l ≤ fu → (∀ i, i < l → lt (Ky f p k) (Ky f p i) = false) → (∀ i, r ≤ i → i < k → lt (Ky f p k) (Ky f p i) = true) →
    (∀ m, m ≤ k → (∀ i, i < m → lt (Ky f p k) (Ky f p i) = false) → (∀ i, m ≤ i → i < k → lt (Ky f p k) (Ky f p i) = true) → Q m s) → (kas_place p k fu l r).kasWp cmp Q s := by
  intro fu
  induction fu with
  | zero =>
    intro l r h1 h2 h3 lo hi hq
    rw [kas_place.eq_1]
    have : l = r := by omega
    subst this
    exact hq l h2 lo hi
  | succ fu ih =>
    intro l r h1 h2 h3 lo hi hq
    rw [kas_place.eq_2]
    by_cases h : l ≥ r
    · rw [if_pos h]
      have : l = r := by omega
      subst this
      exact hq l h2 lo hi
    · rw [if_neg h]
      refine wp_ask hc (g.lt hN _) (g.lt hN _) ?_
      by_cases hb : lt (f (p.getD k 0)) (f (p.getD ((l + r) / 2) 0)) = true
      · rw [hb, if_pos rfl]
        refine ih l ((l + r) / 2) (by omega) (by omega) (by omega) lo (fun i h4 h5 => ?_) hq
        by_cases hr : r ≤ i
        · exact hi i hr h5
        · by_cases hx : lt (Ky f p k) (Ky f p i) = true
          · exact hx
          · have u1 := u.le o (i - (l + r) / 2) ((l + r) / 2) (by omega)
            have e1 : (l + r) / 2 + (i - (l + r) / 2) = i := by omega
            rw [e1] at u1
            have := o.tr _ _ _ u1 (bool_no hx)
            have hb1 : lt (Ky f p k) (Ky f p ((l + r) / 2)) = true := hb
            rw [hb1] at this; cases this
      · have hb0 := bool_no hb
        rw [hb0, if_neg Bool.false_ne_true]
        refine ih ((l + r) / 2 + 1) r (by omega) h2 (by omega) (fun i h4 => ?_) hi hq
        have u1 := u.le o ((l + r) / 2 - i) i (by omega)
        have e1 : i + ((l + r) / 2 - i) = (l + r) / 2 := by omega
        rw [e1] at u1
        exact o.tr _ _ _ u1 hb0
theorem wp_bin (o : Ordr lt) (hc : Asks lt f N s cmp) (hN : 1 ≤ N) {Q : Array Nat → Shared → Prop} : ∀ (fu : Nat) (p : Array Nat) (n : Nat), Good N p → n + fu = N → UpTo lt f p n → (∀ p', Good N p' → UpTo lt f p' N → Q p' s) → (kas_bin fu p n).kasWp cmp Q s := by
  intro fu
  induction fu with
  | zero =>
    intro p n g h u hq
    rw [kas_bin.eq_1]
    have : n = N := by omega
    subst this
    exact hq p g u
  | succ fu ih =>
    intro p n g h u hq
    rw [kas_bin.eq_2, KasT.kasWp_bind]
    have sz := g.size
    refine wp_place o hc hN g u _ _ _ (Nat.zero_le _) (Nat.le_refl _) (by omega) (fun i z => by omega) (fun i a b => by omega) fun m hm lo hi => ?_
    refine ih _ _ (bub_good g) (by omega) (fun i hi' => ?_) hq
    have K' : ∀ j, Ky f (bubble p n (n - m)) j = if j = m then Ky f p n else if m < j ∧ j ≤ n then Ky f p (j - 1) else Ky f p j := by
      intro j
      unfold Ky
      rw [bub_get (by omega) _ (by omega)]
      have e1 : n - (n - m) = m := by omega
      rw [e1]
      by_cases h1 : j = m
      · rw [if_pos h1, if_pos h1]
      · rw [if_neg h1, if_neg h1]
        by_cases h2 : m < j ∧ j ≤ n
        · rw [if_pos h2, if_pos h2]
        · rw [if_neg h2, if_neg h2]
    rw [K', K']
    by_cases h1 : i + 1 < m
    · rw [if_neg (by omega), if_neg (by omega), if_neg (by omega), if_neg (by omega)]
      exact u i (by omega)
    · by_cases h2 : i + 1 = m
      · rw [if_pos h2, if_neg (by omega), if_neg (by omega)]
        exact lo i (by omega)
      · by_cases h3 : i = m
        · rw [if_neg (by omega), if_pos (by omega), if_pos h3]
          have e1 : i + 1 - 1 = i := by omega
          rw [e1]
          exact o.asym _ _ (hi i (by omega) (by omega))
        · rw [if_neg (by omega), if_pos (by omega), if_neg h3, if_pos (by omega)]
          have := u (i - 1) (by omega)
          have e1 : i + 1 - 1 = i - 1 + 1 := by omega
          rw [e1]; exact this
theorem wp_sort (o : Ordr lt) (hc : Asks lt f N s cmp) (hN : 1 ≤ N) {Q : Array Nat → Shared → Prop} (hq : ∀ p, Good N p → UpTo lt f p N → Q p s) : (kas_sort N).kasWp cmp Q s := by
  unfold kas_sort
  rw [KasT.kasWp_bind]
  refine wp_count o hc hN ⟨.refl _⟩ fun m p' g h1 hm u => ?_
  dsimp only
  by_cases h : m < N
  · rw [if_pos h]
    have e : max m 1 = m := by omega
    rw [e]
    exact wp_bin o hc hN _ _ _ g (by omega) u hq
  · rw [if_neg h]
    have : m = N := by omega
    subst this
    exact hq p' g u
end
end L2

set_option Elab.async false
set_option linter.all false
set_option maxRecDepth 100000
namespace L2
open PySem PySem.Spec PyProof.Rows PySem.W
section
variable {prog : Program} {w : World} {A : Around} {E : Value → Shared → Prop} {s : Shared} {α : Type}
/-- the values can be compared, and what each comparison says -/
structure Comps (prog : Program) (w : World) (h : Heap) (vs : List Value) (lt : α → α → Bool) (f : Nat → α) : Prop where
  ex : 2 ≤ vs.length → ∃ κ : SortKind, (∀ (A' : Around) (E' : Value → Shared → Prop) (s' : Shared) (Q' : SortKind → Shared → Prop), Keeps h s'.heap → Q' κ s' → wpAny (model prog w) A' (keyKind' vs.toArray) Q' E' s') ∧
    ∀ (A' : Around) (s' : Shared) (i j : Nat) (C : Bool → Shared → Prop), A'.units + 2 < cLine → Keeps h s'.heap → i < vs.length → j < vs.length → C (lt (f i) (f j)) s' → wpAny (model prog w) A' (keyLt' κ (vs.getD i Value.none) (vs.getD j Value.none)) C (fun _ _ => False) s'
/-- the values in the order p -/
def byP (vs : List Value) (p : Array Nat) : List Value := p.toList.map fun i => vs.getD i Value.none
theorem any_sort {a : Addr} {vs : List Value} {n : Nat} {h0 : Heap} {lt : α → α → Bool} {f : Nat → α} {P : PySem.Fin → Shared → Prop} (o : Ordr lt) (hu : A.units + 2 < cLine) (hr : Comps prog w h0 vs lt f) (h64 : vs.length < 64) (ho : s.heap.get? a = some (seqObj "list" vs.toArray n)) (hk : ∀ b o, h0.get? b = some o → s.heap.get? b = some o ∧ b ≠ a)
    (h : ∀ p, Good vs.length p → UpTo lt f p vs.length → P (.done (.ret .none)) { s with heap := sortedHeap s.heap a vs (byP vs p).toArray }) : wpAny (model prog w) A (Builtin.«list.sort» ⟨[.ref a], []⟩) P E s := by
  rw [list_sort_plain]
  have ha : a < s.heap.objs.size := Heap.lt_size ho
  have hz : vs.length ≤ sizeLine := by rw [sizeLine_eq]; omega
  refine wpAny_bind (listItems_at ho rfl (wpAny_bind (listUpdate_at ho rfl ?_ (by show vs.toArray.size ≤ _; rw [List.size_toArray]; omega) (by show (#[] : Array Value).size ≤ _; simp))))
  have ho1 := get?_update_seq ho (fun _ => #[])
  refine wpAny_bind (seqEpoch_at ho1 rfl (wpAny_bind (wpAny_newTuple (wpAny_bind (wpAny_newList (wpAny_holding ?_) (by simp))) (by simpa using hz))))
  show wpAny (model prog w) A _ P E { s with heap := ((s.heap.update a (Obj.mapSeq fun _ => #[])).push (seqObj "tuple" vs.toArray 0)).push (seqObj "list" #[] 0) }
  have ho6 : (((s.heap.update a (Obj.mapSeq fun _ => #[])).push (seqObj "tuple" vs.toArray 0)).push (seqObj "list" #[] 0)).get? a = some _ := Heap.get?_push_of_some _ (Heap.get?_push_of_some _ ho1)
  have kp : Keeps h0 (((s.heap.update a (Obj.mapSeq fun _ => #[])).push (seqObj "tuple" vs.toArray 0)).push (seqObj "list" #[] 0)) := fun b o e => by
    obtain ⟨e1, e2⟩ := hk b o e
    refine Heap.get?_push_of_some _ (Heap.get?_push_of_some _ ?_)
    rw [Heap.get?_update_ne _ _ _ _ e2]; exact e1
  dsimp only
  by_cases h2 : vs.toArray.size < 2
  · rw [if_pos h2, if_pos h2]
    refine wpAny_bind (wpAny_pure ?_)
    rw [StateT.run_pure]
    refine wpAny_bind (wpAny_pure ?_)
    dsimp only
    have h2' : vs.length < 2 := by simpa using h2
    have gd : Good vs.length (List.range vs.length).toArray := ⟨.refl _⟩
    have up : UpTo lt f (List.range vs.length).toArray vs.length := fun i hi => by omega
    have eb : byP vs (List.range vs.length).toArray = vs := by
      unfold byP
      refine List.ext_getElem? fun i => ?_
      simp only [List.getElem?_map]
      by_cases hi : i < vs.length
      · simp [hi, List.getD_eq_getElem?_getD]
      · simp [hi]
    have h' := h _ gd up
    rw [eb] at h'
    have eo : (arrOf (SortSt.mk' general' (vs.toArray.zip vs.toArray) #[] 7 none)).map (·.2) = vs.toArray := by
      show (vs.toArray.zip vs.toArray).map (·.2) = _
      apply Array.toList_inj.mp
      simp [List.map_snd_zip]
    refine wpAny_bind (seqEpoch_at ho6 rfl ?_)
    rw [eo]
    refine wpAny_bind (listUpdate_at ho6 rfl ?_ (by simp) (by rw [List.size_toArray]; omega))
    simp only [bne_self_eq_false, Bool.false_eq_true, if_false]
    exact wpAny_pure h'
  · rw [if_neg h2, if_neg h2]
    have h2' : 2 ≤ vs.length := by simpa using h2
    obtain ⟨κ, hkind, hless⟩ := hr.ex h2'
    refine wpAny_bind (hkind _ _ _ _ kp ?_)
    refine wpAny_bind (wpAny_mono (kat_run (ks := vs) (vs := vs) (κ := κ) (E := E) (Q := fun st' s' => ∃ p, Good vs.length p ∧ UpTo lt f p vs.length ∧ (arrOf st').map (·.2) = (byP vs p).toArray ∧ failedOf st' = none ∧ s' = { s with heap := ((s.heap.update a (Obj.mapSeq fun _ => #[])).push (seqObj "tuple" vs.toArray 0)).push (seqObj "list" #[] 0) })
      (G := fun p s' => Good vs.length p ∧ UpTo lt f p vs.length ∧ s' = { s with heap := ((s.heap.update a (Obj.mapSeq fun _ => #[])).push (seqObj "tuple" vs.toArray 0)).push (seqObj "list" #[] 0) }) rfl h2' h64 (fun p st' s' hp har hf hG => ⟨p, hG.1, hG.2.1, ?_, hf, hG.2.2⟩) (wp_sort o (fun i j C hi hj hC => ?_) (by omega) fun p g u => ⟨g, u, rfl⟩)) ?_ fun _ _ e => e)
    · rw [kat_snds rfl har]; rfl
    · exact hless A _ i j C hu kp hi hj hC
    · rintro ⟨⟨⟩, st'⟩ s' ⟨p, g, u, eo, hf, rfl⟩
      dsimp only
      dsimp only at eo hf
      refine wpAny_bind (seqEpoch_at ho6 rfl ?_)
      rw [eo]
      refine wpAny_bind (listUpdate_at ho6 rfl ?_ (by simp) ?_)
      · rw [hf]
        simp only [bne_self_eq_false, Bool.false_eq_true, if_false]
        exact wpAny_pure (h p g u)
      · unfold byP
        rw [List.size_toArray, List.length_map, Array.length_toList, g.size]; omega
theorem any_sorted {l : Addr} {vs : List Value} {lt : α → α → Bool} {f : Nat → α} {Q : Value → Shared → Prop} (o : Ordr lt) (hu : A.units + 10 < cLine) (hr : Comps prog w s.heap vs lt f) (h64 : vs.length < 64) (hl : s.heap.IsList l vs.toArray)
    (h : ∀ p, Good vs.length p → UpTo lt f p vs.length → Q (.ref (s.heap.objs.size + 1)) { s with heap := sortedAll s.heap vs (byP vs p).toArray }) : wpAny (model prog w) A (call (.builtin "sorted") [.ref l]) Q E s := by
  have hz : vs.length ≤ sizeLine := by rw [sizeLine_eq]; omega
  refine Calls.call_function_entry kind_sorted plain_sorted entry_sorted (args_sorted1 _) ?_
  unfold Builtin.«sorted»
  refine wpAny_bind (m := checkCount "sorted" 1 1 _) (wpAny_pure (wpAny_bind (collect_list hl ?_ hz)))
  refine wpAny_bind (wpAny_newList ?_ (by simpa using hz))
  have e1 : ((s.heap.push (seqObj "list" #[] 0)).update s.heap.objs.size (Obj.mapSeq (· ++ vs.toArray))).objs.size = s.heap.objs.size + 1 := by rw [Heap.size_update, size_push']
  have e2 : (((s.heap.push (seqObj "list" #[] 0)).update s.heap.objs.size (Obj.mapSeq (· ++ vs.toArray))).push (seqObj "list" vs.toArray 0)).get? (s.heap.objs.size + 1) = some (seqObj "list" vs.toArray 0) := by
    rw [← e1]; exact Heap.get?_push_size _ rfl
  show wpAny _ _ _ _ _ { s with heap := ((s.heap.push (seqObj "list" #[] 0)).update s.heap.objs.size (Obj.mapSeq (· ++ vs.toArray))).push (seqObj "list" vs.toArray 0) }
  rw [e1]
  refine wpAny_bind (wpAny_holding (wpAny_call_entry slot_list_sort ⟨_, e2, rfl⟩ entry_list_sort (any_sort (h0 := s.heap) o (by show A.units + 1 + 1 + 2 < cLine; omega) hr h64 e2 (fun b o e => ⟨?_, Nat.ne_of_lt (Nat.lt_succ_of_lt (Heap.lt_size e))⟩) fun p g u => ⟨_, rfl, wpAny_pure ⟨_, rfl, h p g u⟩⟩) (args_list_sort _)))
  have hlt : b < s.heap.objs.size := Heap.lt_size e
  refine Heap.get?_push_of_some _ ?_
  rw [Heap.get?_update_ne _ _ _ _ (Nat.ne_of_lt hlt)]
  exact Heap.get?_push_of_some _ e
end
/-! ### cells -/
def cltB (a b : Cell) : Bool := decide (cellLt a b)
theorem clt_ord : Ordr cltB := by
  refine ⟨fun a b h => ?_, fun a b c h1 h2 => ?_, fun a b h1 h2 => ?_⟩
  · have := of_decide_eq_true h
    refine decide_eq_false ?_
    unfold cellLt at *; omega
  · have h1' := of_decide_eq_false h1
    have h2' := of_decide_eq_false h2
    refine decide_eq_false ?_
    unfold cellLt at *; omega
  · have h1' := of_decide_eq_false h1
    have h2' := of_decide_eq_false h2
    unfold cellLt at *
    exact Prod.ext (by omega) (by omega)
section
variable {X : Cx}
theorem cells_comps {pins : List (Addr × Obj)} {σ : L2.St} {H : Hp} {s : Shared} {vs : List V} {us : List Value} {cs : List Cell} (I : Inv X pins σ H s) (D : Dens X.K H vs (cs.map cellD)) (r : Vals vs us) : Comps X.prog X.w s.heap us cltB fun i => cs.getD i (0, 0) := by
  have hl : us.length = cs.length := by rw [← r.length, D.length, List.length_map]
  have at_ : ∀ i, (hi : i < cs.length) → ∃ (a : Addr) (o : Obj) (t t' : Tok) (n : Nat), us.getD i Value.none = .ref a ∧ s.heap.get? a = some o ∧ o.cls = .type "tuple" ∧ o.data = .seq #[.int cs[i].1 t, .int cs[i].2 t'] n := fun i hi => by
    have hv : i < vs.length := by rw [r.length, hl]; exact hi
    have ev : vs[i]? = some vs[i] := by simp [hv]
    obtain ⟨u, eu, ru⟩ := r.get ev
    obtain ⟨d, ed, dd⟩ := D.get ev
    rw [List.getElem?_map, List.getElem?_eq_getElem hi] at ed
    cases ed
    obtain ⟨a, o, t, t', n, rfl, h1, h2, h3⟩ := cell_obj I dd ru
    exact ⟨a, o, t, t', n, by rw [List.getD_eq_getElem?_getD, eu]; rfl, h1, h2, h3⟩
  refine ⟨fun h2 => ⟨tuples' true, fun A' E' s' Q' kp q => ?_, fun A' s' i j C hu kp hi hj hC => ?_⟩⟩
  · have kt : ∀ (cs : List Cell) (us : List Value), us.length = cs.length → (∀ i, (hi : i < cs.length) → ∃ (a : Addr) (o : Obj) (t t' : Tok) (n : Nat), us.getD i Value.none = .ref a ∧ s.heap.get? a = some o ∧ o.cls = .type "tuple" ∧ o.data = .seq #[.int cs[i].1 t, .int cs[i].2 t'] n) →
        ∃ fs : List Value, fs.length = us.length ∧ (∀ f ∈ fs, ∃ i t, f = Value.int i t) ∧ KatTups s'.heap us fs := by
      intro cs
      induction cs with
      | nil =>
        intro us e _
        cases us with
        | nil => exact ⟨[], rfl, (fun f hf => by cases hf), .nil⟩
        | cons a b => simp at e
      | cons c cs ih =>
        intro us e h
        cases us with
        | nil => simp at e
        | cons u us =>
          obtain ⟨a, o, t, t', n, e1, e2, e3, e4⟩ := h 0 (by simp)
          have eu : u = .ref a := e1
          subst eu
          obtain ⟨fs, f1, f2, f3⟩ := ih us (by simpa using e) fun i hi => by
            have := h (i + 1) (by simpa using hi)
            simpa using this
          refine ⟨.int c.1 t :: fs, by simp [f1], fun f hf => ?_, KatTups.cons (kp _ _ e2) e3 e4 rfl f3⟩
          rcases List.mem_cons.mp hf with z | z
          · exact ⟨_, _, z⟩
          · exact f2 f z
    obtain ⟨fs, f1, f2, f3⟩ := kt cs us hl at_
    refine kat_kind (T := .type "int") f3 (by omega) (fun v hv => ?_) (by decide) ?_
    · obtain ⟨i, t, rfl⟩ := f2 v hv
      exact Looks.of_pure rfl
    · exact q
  · rw [hl] at hi hj
    obtain ⟨a, o, t, t', n, e1, e2, e3, e4⟩ := at_ i hi
    obtain ⟨b, o2, t2, t2', n2, g1, g2, g3, g4⟩ := at_ j hj
    rw [e1, g1]
    have ci : cs.getD i (0, 0) = cs[i] := by rw [List.getD_eq_getElem?_getD, List.getElem?_eq_getElem hi]; rfl
    have cj : cs.getD j (0, 0) = cs[j] := by rw [List.getD_eq_getElem?_getD, List.getElem?_eq_getElem hj]; rfl
    rw [ci, cj] at hC
    refine kat_lt (kp _ _ e2) e4 (kp _ _ g2) g4 ?_
    have out : ∀ x : Bool, (x = true ↔ cellLt cs[i] cs[j]) → C x s' := fun x hx => by
      have : x = cltB cs[i] cs[j] := by
        unfold cltB
        cases x
        · exact (decide_eq_false fun z => by have := hx.mpr z; cases this).symm
        · exact (decide_eq_true (hx.mp rfl)).symm
      rw [this]; exact hC
    refine kat_cons (wpAny_eqBool_int ?_)
    by_cases q1 : cs[i].1 = cs[j].1
    · rw [show (cs[i].1 == cs[j].1) = true from beq_iff_eq.mpr q1]
      refine kat_yes (kat_cons (wpAny_eqBool_int ?_))
      by_cases q2 : cs[i].2 = cs[j].2
      · rw [show (cs[i].2 == cs[j].2) = true from beq_iff_eq.mpr q2]
        refine kat_yes (kat_nil (out _ ⟨fun z => ?_, fun z => ?_⟩))
        · have := of_decide_eq_true z; simp at this
        · unfold cellLt at z; omega
      · rw [show (cs[i].2 == cs[j].2) = false from beq_eq_false_iff_ne.mpr q2]
        refine kat_no (kat_one _ _ (lt_int (out _ ?_)))
        rw [decide_eq_true_iff]; unfold cellLt; omega
    · rw [show (cs[i].1 == cs[j].1) = false from beq_eq_false_iff_ne.mpr q1]
      refine kat_no (oneLt_int (out _ ?_))
      rw [decide_eq_true_iff]; unfold cellLt; omega
/-- V of values in the order p -/
theorem vals_by {vs : List V} {us : List Value} (r : Vals vs us) : ∀ (ps : List Nat), (∀ i ∈ ps, i < vs.length) → Vals (ps.map fun i => vs.getD i .non) (ps.map fun i => us.getD i Value.none)
  | [], _ => .nil
  | i :: ps, h => by
    have hi := h i List.mem_cons_self
    obtain ⟨u, eu, ru⟩ := r.get (show vs[i]? = some vs[i] from by simp [hi])
    have e1 : vs.getD i .non = vs[i] := by simp [List.getD_eq_getElem?_getD, hi]
    have e2 : us.getD i Value.none = u := by rw [List.getD_eq_getElem?_getD, eu]; rfl
    rw [List.map_cons, List.map_cons, e1, e2]
    exact .cons ru (vals_by r ps fun j hj => h j (List.mem_cons_of_mem _ hj))
theorem dens_by {K : PySem.W.Frag} {H : Hp} {vs : List V} {ds : List Dt} {d0 : Dt} (D : Dens K H vs ds) : ∀ (ps : List Nat), (∀ i ∈ ps, i < vs.length) → Dens K H (ps.map fun i => vs.getD i .non) (ps.map fun i => ds.getD i d0)
  | [], _ => .nil
  | i :: ps, h => by
    have hi := h i List.mem_cons_self
    obtain ⟨d, ed, dd⟩ := D.get (show vs[i]? = some vs[i] from by simp [hi])
    have e1 : vs.getD i .non = vs[i] := by simp [List.getD_eq_getElem?_getD, hi]
    have e2 : ds.getD i d0 = d := by rw [List.getD_eq_getElem?_getD, ed]; rfl
    rw [List.map_cons, List.map_cons, e1, e2]
    exact .cons dd (dens_by D ps fun j hj => h j (List.mem_cons_of_mem _ hj))
theorem perm_by {β : Type} {xs : List β} {d : β} {ps : List Nat} (h : ps.Perm (List.range xs.length)) : (ps.map fun i => xs.getD i d).Perm xs := by
  have e : (List.range xs.length).map (fun i => xs.getD i d) = xs := by
    refine List.ext_getElem? fun i => ?_
    simp only [List.getElem?_map]
    by_cases hi : i < xs.length
    · simp [hi, List.getD_eq_getElem?_getD]
    · simp [hi]
  exact (h.map _).trans (by rw [e])
/-- in order, equals aside -/
def Asc (cs : List Cell) : Prop := cs.Pairwise fun a b => ¬ cellLt b a
/-- sorted(xs), xs a list of cells -/
def rSortC (K : PySem.W.Frag) : List V → Hp → VK → Prop := fun xs H Q => ∃ (p : Addr) (vs : List V) (cs : List Cell), xs = [.ref p] ∧ SqL K H p vs ∧ Dens K H vs (cs.map cellD) ∧ cs.length < 64 ∧ ∀ l ws ds, H l = none → ws.Perm vs → Dens K H ws (ds.map cellD) → ds.Perm cs → Asc ds → Q (.ref l) (upd H l (.lst ws))
theorem call_sortC (hu : X.A.units + 60 < cLine) : CallR X (.builtin "sorted") (rSortC X.K) := by
  intro pins s σ H xs us Q I r h
  obtain ⟨p, vs, cs, rfl, hS, D, h64, q⟩ := h
  obtain ⟨u, rfl, ru⟩ := vals1 r
  cases ru
  obtain ⟨its, rv, pl, hz⟩ := I.list hS
  have hl : its.length = cs.length := by rw [← rv.length, D.length, List.length_map]
  have hv : vs.length = its.length := rv.length
  refine any_sorted clt_ord (by omega) (cells_comps I D rv) (by omega) pl.isList fun o g up => ?_
  obtain ⟨e, he⟩ := sortedAll_at s.heap its (byP its o).toArray
  have hn : H (s.heap.objs.size + 1) = none := I.hok.fresh (Nat.le_succ _)
  have bd : ∀ i ∈ o.toList, i < vs.length := fun i hi => by rw [hv]; exact List.mem_range.mp (g.perm.mem_iff.mp hi)
  have rv' : Vals (o.toList.map fun i => vs.getD i .non) (byP its o) := vals_by rv o.toList bd
  have pv : (o.toList.map fun i => vs.getD i .non).Perm vs := perm_by (by rw [hv]; exact g.perm)
  have dv : Dens X.K H (o.toList.map fun i => vs.getD i .non) ((o.toList.map fun i => cs.getD i (0, 0)).map cellD) := by
    have := dens_by (d0 := cellD (0, 0)) D o.toList bd
    have e1 : (o.toList.map fun i => (cs.map cellD).getD i (cellD (0, 0))) = ((o.toList.map fun i => cs.getD i (0, 0)).map cellD) := by
      rw [List.map_map]
      refine List.map_congr_left fun i hi => ?_
      simp only [List.getD_eq_getElem?_getD, List.getElem?_map, Function.comp]
      cases cs[i]? <;> rfl
    rw [← e1]; exact this
  have pc : (o.toList.map fun i => cs.getD i (0, 0)).Perm cs := perm_by (by rw [← hl]; exact g.perm)
  have as : Asc (o.toList.map fun i => cs.getD i (0, 0)) := by
    unfold Asc
    rw [List.pairwise_iff_getElem]
    intro i j hi hj hij
    rw [List.length_map, Array.length_toList, g.size] at hi hj
    have := up.le clt_ord (j - i) i (by omega)
    have e1 : i + (j - i) = j := by omega
    rw [e1] at this
    have := of_decide_eq_false this
    have sz := g.size
    have a1 : Ky (fun i => cs.getD i (0, 0)) o i = (o.toList.map fun i => cs.getD i (0, 0))[i] := by
      unfold Ky
      rw [List.getElem_map, Array.getD_eq_getD_getElem?, Array.getElem?_eq_getElem (by omega)]
      rfl
    have a2 : Ky (fun i => cs.getD i (0, 0)) o j = (o.toList.map fun i => cs.getD i (0, 0))[j] := by
      unfold Ky
      rw [List.getElem_map, Array.getD_eq_getD_getElem?, Array.getElem?_eq_getElem (by omega)]
      rfl
    rw [← a1, ← a2]; exact this
  have hz' : (o.toList.map fun i => vs.getD i .non).length ≤ sizeLine := by rw [pv.length_eq]; exact hz
  exact ⟨.ref (s.heap.objs.size + 1), upd H (s.heap.objs.size + 1) (.lst (o.toList.map fun i => vs.getD i .non)), I.laid (a := s.heap.objs.size + 1) (o := .lst (o.toList.map fun i => vs.getD i .non)) (t' := s.toks) (fun b o q => sortedAll_old q) (Nat.le_succ _) ⟨hz', byP its o, e, rv', he⟩, rfl, q _ _ _ hn pv dv pc as⟩
theorem k_sortC {K : PySem.W.Frag} (hu : X.A.units + 60 < cLine) (hK : X.K = K := by rfl) : CallR X (.builtin "sorted") (rSortC K) := by subst hK; exact call_sortC hu
end
end L2

set_option Elab.async false
set_option linter.all false
set_option maxRecDepth 100000
namespace L2
open PySem PySem.Spec PyProof.Rows PySem.SeqAt PySem.MeetsSeq PySem.MeetsSeq2 PySem.MeetsSeq3
open PySem.AutoSeq1 (wpAny_loadPart')
/-! ## a >= b of cells -/
theorem rcGe_int (A : Around) (s : Shared) (a : Int) (t : Tok) (c : Int) (u : Tok) (prog : Program) (w : World) (E : Value → Shared → Prop) (Q : Value → Shared → Prop) (h : Q (.bool (decide (c ≤ a))) s) : wpAny (model prog w) A (richCompare .GtE (.int a t) (.int c u)) Q E s :=
  (ge_int h : wpAny (model prog w) A (compareOp .GtE (.int a t) (.int c u)) Q E s)
theorem ge_pair (p q : Addr) (x1 x2 y1 y2 : Int) (t1 t2 u1 u2 : Tok) (n m : Nat) (d1 d2 : Option Addr) (z1 z2 : Array (Option Value)) : Meets (Builtin.«tuple.__ge__» ⟨[.ref p, .ref q], []⟩)
    (fun _ R s => s.heap.get? p = some { cls := .type "tuple", dict := d1, data := .seq #[.int x1 t1, .int x2 t2] n, slots := z1 } ∧ s.heap.get? q = some { cls := .type "tuple", dict := d2, data := .seq #[.int y1 u1, .int y2 u2] m, slots := z2 } ∧ R (.ok (.ret (.bool (!cltB (x1, x2) (y1, y2))))) s) :=
  .of_wp fun prog w A R s h => by
    obtain ⟨hp, g, d, tk, os⟩ := s; obtain ⟨e1, e2, h⟩ := h
    have f2 := AutoSeq1.sub_tuple_tuple
    have k1 := fun (Q : Bool → Shared → Prop) (E : Value → Shared → Prop) (h : Q (x1 == y1) ⟨hp, g, d, tk, os⟩) => (wpAny_eqBool_int (t := t1) (u := u1) h : wpAny (model prog w) A.in1 (eqBool (.int x1 t1) (.int y1 u1)) Q E ⟨hp, g, d, tk, os⟩)
    have k2 := fun (Q : Bool → Shared → Prop) (E : Value → Shared → Prop) (h : Q (x2 == y2) ⟨hp, g, d, tk, os⟩) => (wpAny_eqBool_int (t := t2) (u := u2) h : wpAny (model prog w) A.in1 (eqBool (.int x2 t2) (.int y2 u2)) Q E ⟨hp, g, d, tk, os⟩)
    have r1 := rcGe_int A.in1 ⟨hp, g, d, tk, os⟩ x1 t1 y1 u1 prog w
    have r2 := rcGe_int A.in1 ⟨hp, g, d, tk, os⟩ x2 t2 y2 u2 prog w
    have out : ∀ b : Bool, (b = true ↔ ¬ cellLt (x1, x2) (y1, y2)) → R (.ok (.ret (.bool b))) ⟨hp, g, d, tk, os⟩ := fun b hb => by
      have : b = !cltB (x1, x2) (y1, y2) := by
        unfold cltB
        by_cases hc : cellLt (x1, x2) (y1, y2)
        · rw [decide_eq_true hc]
          cases b
          · rfl
          · exact absurd hc (hb.mp rfl)
        · rw [decide_eq_false hc]; exact hb.mpr hc
      rw [this]; exact h
    wp_walk using wpAny_loadPart' e1, wpAny_loadPart' e2, k1, k2
    by_cases q1 : x1 = y1
    · rw [show (x1 == y1) = true from beq_iff_eq.mpr q1]
      wp_walk using k2
      by_cases q2 : x2 = y2
      · rw [show (x2 == y2) = true from beq_iff_eq.mpr q2]
        wp_walk
        refine ⟨_, rfl, out _ ?_⟩
        simp [Builtin.Tuple.tupleCompareSizes, cellLt, q1, q2]
      · rw [show (x2 == y2) = false from beq_eq_false_iff_ne.mpr q2]
        wp_walk using r2
        refine ⟨_, rfl, out _ ?_⟩
        rw [decide_eq_true_iff]; unfold cellLt; dsimp only; omega
    · rw [show (x1 == y1) = false from beq_eq_false_iff_ne.mpr q1]
      wp_walk using r1
      refine ⟨_, rfl, out _ ?_⟩
      rw [decide_eq_true_iff]; unfold cellLt; dsimp only; omega
section
variable {X : Cx} {K : PySem.W.Frag}
def rGeC (K : PySem.W.Frag) : R2 := fun x y H Q => ∃ (a b : Cell), Den K H x (cellD a) ∧ Den K H y (cellD b) ∧ Q (.bl (!cltB a b)) H
theorem op_geC (hu : X.A.units + 60 < cLine) : OpR X (compareOp .GtE) (rGeC X.K) := by
  intro pins s σ H x y v u Q I rx ry h
  obtain ⟨a, b, da, db, q⟩ := h
  obtain ⟨p, o, t1, t2, n, rfl, e1, c1, f1⟩ := cell_obj I da rx
  obtain ⟨p', o', u1, u2, m, rfl, e2, c2, f2⟩ := cell_obj I db ry
  obtain ⟨oc, od, of, os⟩ := o
  obtain ⟨oc', od', of', os'⟩ := o'
  dsimp only at c1 f1 c2 f2
  subst c1 f1 c2 f2
  refine richCompare_meets_room (op := .GtE) ⟨_, e1, rfl⟩ ⟨_, e2, rfl⟩ PySem.F.slot_tuple_ge PySem.F.entry_tuple_ge (PySem.F.args_tuple_ge_2 _ _) (ge_pair p p' a.1 a.2 b.1 b.2 t1 t2 u1 u2 n m od od' os os') ⟨e1, e2, ?_⟩ (by omega)
  exact (show Value.bool (!cltB a b) ≠ Value.notImplemented ∧ EP X pins σ Q (.bool (!cltB a b)) s from ⟨(fun z => nomatch z), ⟨.bl (!cltB a b), H, I, rfl, q⟩⟩)
theorem k_geC (hu : X.A.units + 60 < cLine) (hK : X.K = K := by rfl) : OpR X (compareOp .GtE) (rGeC K) := by subst hK; exact op_geC hu
end
end L2

set_option Elab.async false
set_option linter.all false
set_option maxRecDepth 100000
namespace L2
open PySem PySem.Spec PyProof.Rows
section
variable {X : Cx}
/-! ## int of a sign -/
def rIntS : List V → Hp → VK → Prop := fun xs H Q => ∃ c : Nat, xs = [.str ⟨#[c]⟩] ∧ 48 ≤ c ∧ c ≤ 57 ∧ Q (.int ((c : Int) - 48)) H
theorem digit_text : ∀ c ∈ List.range 58, 48 ≤ c → intText? ⟨#[c]⟩ = some ((c : Int) - 48) := by decide +kernel
theorem call_intS : CallR X (.type "int") rIntS := by
  intro pins s σ H xs us Q I r h
  obtain ⟨c, rfl, h1, h2, q⟩ := h
  obtain ⟨u, rfl, t, rfl⟩ := vals1 r
  exact PySem.W.KIN.call_text (digit_text c (List.mem_range.mpr (by omega)) h1) (by show (1 : Nat) ≤ 640; decide) ⟨.int _, H, I.tok _, ⟨_, rfl⟩, q⟩
end
/-! ## layings -/
def figOf (zs : List Str) (c : Cell) : Int := (codeAt zs (c.1.toNat, c.2.toNat) : Int) - 48
def stonesN (h w : Int) (c : Cell) (cs : List Cell) : Nat := ((lnear h w c).filter fun y => decide (y ∈ cs)).length
def ascB (cs : List Cell) : Bool := (List.range (cs.length - 1)).all fun j => cltB (cs.getD j (0, 0)) (cs.getD (j + 1) (0, 0))
def layB (zs : List Str) (w : Nat) (cs : List Cell) : Bool := ascB cs && cs.all (closedB zs w)
def trueB (zs : List Str) (w : Nat) (cs : List Cell) (c : Cell) : Bool := decide (figOf zs c = (stonesN zs.length w c cs : Int))
def keepB (zs : List Str) (w : Nat) (cs : List Cell) : Bool := (fieldL zs.length w).all fun c => closedB zs w c || trueB zs w cs c
def lkeepB (zs : List Str) (w : Nat) (cs : List Cell) : Bool := (cellsL zs w "012345678").all (trueB zs w cs)
theorem clt_trans {a b c : Cell} (h1 : cellLt a b) (h2 : cellLt b c) : cellLt a c := by unfold cellLt at *; omega
theorem asc_iff (cs : List Cell) : ascB cs = true ↔ cs.Pairwise cellLt := by
  unfold ascB
  rw [List.all_eq_true]
  constructor
  · intro h
    have step : ∀ d i, i + d + 1 < cs.length → cellLt (cs.getD i (0, 0)) (cs.getD (i + d + 1) (0, 0)) := by
      intro d
      induction d with
      | zero => intro i hi; exact of_decide_eq_true (h i (List.mem_range.mpr (by omega)))
      | succ d ih => intro i hi; exact clt_trans (ih i (by omega)) (of_decide_eq_true (h (i + d + 1) (List.mem_range.mpr (by omega))))
    rw [List.pairwise_iff_getElem]
    intro i j hi hj hij
    have := step (j - i - 1) i (by omega)
    have e : i + (j - i - 1) + 1 = j := by omega
    rw [e] at this
    simpa [List.getD_eq_getElem?_getD, hi, hj] using this
  · intro h j hj
    rw [List.mem_range] at hj
    have := (List.pairwise_iff_getElem.mp h) j (j + 1) (by omega) (by omega) (by omega)
    refine decide_eq_true ?_
    have h1 : j < cs.length := by omega
    have h2 : j + 1 < cs.length := by omega
    simpa [List.getD_eq_getElem?_getD, h1, h2] using this
theorem lay_of {zs : List Str} {w : Nat} {cs : List Cell} (h1 : cs.Pairwise cellLt) (h2 : ∀ c ∈ cs, closedB zs w c = true) : layB zs w cs = true := by
  unfold layB
  rw [(asc_iff cs).mpr h1, Bool.true_and, List.all_eq_true]; exact h2
theorem lay_not {zs : List Str} {w : Nat} {cs : List Cell} (h : ¬ (cs.Pairwise cellLt ∧ ∀ c ∈ cs, closedB zs w c = true)) : layB zs w cs = false := by
  cases e : layB zs w cs
  · rfl
  · unfold layB at e
    rw [Bool.and_eq_true, asc_iff, List.all_eq_true] at e
    exact absurd e h
theorem field_asc : ∀ h ∈ List.range 7, ∀ w ∈ List.range 7, (fieldL h w).Pairwise cellLt := by decide +kernel
theorem inS_digits (c : Nat) : inS "012345678" c = decide (48 ≤ c ∧ c ≤ 56) := by
  rw [inS_of (by decide +kernel)]
  have e : ("012345678" : Str).cps.toList = [48, 49, 50, 51, 52, 53, 54, 55, 56] := by decide +kernel
  rw [e]
  have : (c ∈ [48, 49, 50, 51, 52, 53, 54, 55, 56]) ↔ (48 ≤ c ∧ c ≤ 56) := by simp; omega
  rw [decide_eq_decide]; exact this
theorem mem_cellsL {zs : List Str} {w : Nat} {sg : Str} {x : Cell} : x ∈ cellsL zs w sg ↔ inF zs.length w x ∧ inS sg (codeAt zs (x.1.toNat, x.2.toNat)) = true := by
  unfold cellsL
  rw [List.mem_flatMap]
  constructor
  · rintro ⟨r, hr, hx⟩
    obtain ⟨c, hc, rfl⟩ := List.mem_map.mp hx
    rw [List.mem_filter, List.mem_range] at hc
    rw [List.mem_range] at hr
    exact ⟨⟨⟨by show (0 : Int) ≤ (r : Int); omega, by show (r : Int) < zs.length; omega⟩, ⟨by show (0 : Int) ≤ (c : Int); omega, by show (c : Int) < w; omega⟩⟩, hc.2⟩
  · rintro ⟨⟨⟨a, b⟩, ⟨c, d⟩⟩, hs⟩
    refine ⟨x.1.toNat, List.mem_range.mpr (by omega), List.mem_map.mpr ⟨x.2.toNat, List.mem_filter.mpr ⟨List.mem_range.mpr (by omega), hs⟩, ?_⟩⟩
    exact Prod.ext (by show ((x.1.toNat : Nat) : Int) = x.1; omega) (by show ((x.2.toNat : Nat) : Int) = x.2; omega)
theorem Vw.code {zs : List Str} {w : Nat} {x : Cell} (v : Vw zs w) (h : inF zs.length w x) : sgnOK (codeAt zs (x.1.toNat, x.2.toNat)) = true := by
  obtain ⟨⟨a, b⟩, ⟨c, d⟩⟩ := h
  have hr : x.1.toNat < zs.length := by omega
  have e : zs.getD x.1.toNat Str.empty = zs[x.1.toNat] := by simp [List.getD_eq_getElem?_getD, hr]
  have hl : (zs[x.1.toNat]).cps.size = w := v.len _ (List.getElem_mem hr)
  refine v.sg _ (List.getElem_mem hr) _ ?_
  unfold codeAt
  dsimp only
  rw [e, Array.getD_eq_getD_getElem?, Array.getElem?_eq_getElem (by omega)]
  exact Array.getElem_mem_toList _
theorem mem_digits {zs : List Str} {w : Nat} {x : Cell} (v : Vw zs w) : x ∈ cellsL zs w "012345678" ↔ inF zs.length w x ∧ closedB zs w x = false := by
  rw [mem_cellsL, inS_digits]
  constructor
  · rintro ⟨h, hc⟩
    have := of_decide_eq_true hc
    refine ⟨h, ?_⟩
    unfold closedB
    rw [decide_eq_false (show ¬ codeAt zs (x.1.toNat, x.2.toNat) = 35 by omega), Bool.and_false]
  · rintro ⟨h, hc⟩
    have sg := of_decide_eq_true (v.code h)
    unfold closedB at hc
    rw [decide_eq_true h, Bool.true_and] at hc
    have := of_decide_eq_false hc
    exact ⟨h, decide_eq_true (by omega)⟩
theorem Vw.digit {zs : List Str} {w : Nat} {x : Cell} (v : Vw zs w) (h : inF zs.length w x) (hc : closedB zs w x = false) : 48 ≤ codeAt zs (x.1.toNat, x.2.toNat) ∧ codeAt zs (x.1.toNat, x.2.toNat) ≤ 56 := by
  have := (mem_cellsL.mp ((mem_digits v).mpr ⟨h, hc⟩)).2
  rw [inS_digits] at this
  exact of_decide_eq_true this
theorem keep_eq {zs : List Str} {w : Nat} {cs : List Cell} (v : Vw zs w) : keepB zs w cs = lkeepB zs w cs := by
  rw [Bool.eq_iff_iff]
  unfold keepB lkeepB
  rw [List.all_eq_true, List.all_eq_true]
  constructor
  · intro h c hc
    obtain ⟨h1, h2⟩ := (mem_digits v).mp hc
    have := h c (mem_field.mpr h1)
    rw [h2, Bool.false_or] at this; exact this
  · intro h c hc
    cases e : closedB zs w c
    · rw [Bool.false_or]; exact h c ((mem_digits v).mpr ⟨mem_field.mp hc, e⟩)
    · rfl
theorem closed_in {zs : List Str} {w : Nat} {x : Cell} : x ∈ cellsL zs w "#" ↔ closedB zs w x = true := by
  rw [← closed_cells]
  unfold closedL
  rw [List.mem_filter, mem_field]
  constructor
  · exact fun h => h.2
  · intro h
    refine ⟨?_, h⟩
    unfold closedB at h
    rw [Bool.and_eq_true] at h
    exact of_decide_eq_true h.1
/-- put in order, and none twice -/
theorem asc_strict {cs : List Cell} (h : Asc cs) (nd : cs.Nodup) : cs.Pairwise cellLt := by
  unfold Asc at h
  have : cs.Pairwise fun a b => ¬ cellLt b a ∧ a ≠ b := h.and nd
  exact this.imp fun {a b} hab => by
    obtain ⟨h1, h2⟩ := hab
    have h3 : ¬ (a.1 = b.1 ∧ a.2 = b.2) := fun z => h2 (Prod.ext z.1 z.2)
    unfold cellLt at *; omega
theorem strict_nodup {cs : List Cell} (h : cs.Pairwise cellLt) : cs.Nodup := h.imp fun {a b} hab e => by
  subst e
  unfold cellLt at hab; omega
end L2

set_option Elab.async false
set_option linter.all false
set_option maxRecDepth 100000
namespace L2
open PySem PySem.Spec PyProof.Rows

/-! ### lists of pairs as tables -/
section
variable {κ : Type} [DecidableEq κ]
def valV (kvs : List (κ × V)) (k : κ) : Option V := (kvs.find? fun kv => decide (kv.1 = k)).map (·.2)
/-- in its place, or at the end -/
def putK (kvs : List (κ × V)) (k : κ) (v : V) : List (κ × V) :=
  if (kvs.any fun kv => decide (kv.1 = k)) = true then kvs.map (fun kv => if kv.1 = k then (kv.1, v) else kv) else kvs ++ [(k, v)]
def dropK (kvs : List (κ × V)) (k : κ) : List (κ × V) := kvs.filter fun kv => decide (kv.1 ≠ k)

theorem valV_nil {k : κ} : valV ([] : List (κ × V)) k = none := rfl
theorem valV_pos {p : κ × V} {r : List (κ × V)} {k : κ} (e : p.1 = k) : valV (p :: r) k = some p.2 := by simp [valV, List.find?_cons, e]
theorem valV_neg {p : κ × V} {r : List (κ × V)} {k : κ} (e : ¬ p.1 = k) : valV (p :: r) k = valV r k := by simp [valV, List.find?_cons, e]
theorem valV_any (k : κ) : ∀ kvs : List (κ × V), (kvs.any fun kv => decide (kv.1 = k)) = (valV kvs k).isSome
  | [] => rfl
  | p :: r => by
    rw [List.any_cons]
    by_cases e : p.1 = k
    · simp only [valV_pos e, decide_eq_true e, Bool.true_or, Option.isSome_some]
    · rw [valV_neg e, decide_eq_false e, Bool.false_or]; exact valV_any k r
theorem valV_map (k j : κ) (y : V) : ∀ kvs : List (κ × V), valV (kvs.map fun kv => if kv.1 = k then (kv.1, y) else kv) j = (valV kvs j).map fun x => if j = k then y else x
  | [] => rfl
  | p :: r => by
    have ih := valV_map k j y r
    rw [List.map_cons]
    by_cases h : p.1 = k
    · rw [if_pos h]
      by_cases e : p.1 = j
      · rw [valV_pos (p := (p.1, y)) e, valV_pos e, Option.map_some, if_pos (e.symm.trans h)]
      · rw [valV_neg (p := (p.1, y)) e, valV_neg e, ih]
    · rw [if_neg h]
      by_cases e : p.1 = j
      · rw [valV_pos (p := p) e, valV_pos e, Option.map_some, if_neg (fun z => h (e.trans z))]
      · rw [valV_neg (p := p) e, valV_neg e, ih]
theorem valV_snoc (k j : κ) (y : V) : ∀ kvs : List (κ × V), valV kvs k = none → valV (kvs ++ [(k, y)]) j = if j = k then some y else valV kvs j
  | [], _ => by
    by_cases e : k = j
    · rw [if_pos e.symm]; exact valV_pos (p := (k, y)) e
    · rw [if_neg (fun z => e z.symm)]; exact valV_neg (p := (k, y)) e
  | p :: r, hn => by
    rw [List.cons_append]
    have hk : ¬ p.1 = k := fun z => by rw [valV_pos z] at hn; cases hn
    rw [valV_neg hk] at hn
    have ih := valV_snoc k j y r hn
    by_cases e : p.1 = j
    · rw [valV_pos e, valV_pos e, if_neg (fun z => hk (e.trans z))]
    · rw [valV_neg e, valV_neg e, ih]
theorem valV_put (kvs : List (κ × V)) (k j : κ) (y : V) : valV (putK kvs k y) j = if j = k then some y else valV kvs j := by
  unfold putK
  by_cases a : (kvs.any fun kv => decide (kv.1 = k)) = true
  · rw [if_pos a, valV_map]
    rw [valV_any] at a
    by_cases e : j = k
    · obtain ⟨x, hx⟩ := Option.isSome_iff_exists.mp a
      rw [if_pos e, e, hx, Option.map_some, if_pos rfl]
    · rw [if_neg e]
      cases valV kvs j with
      | none => rfl
      | some x => rw [Option.map_some, if_neg e]
  · rw [if_neg a]
    refine valV_snoc k j y kvs ?_
    rw [valV_any] at a
    cases q : valV kvs k with
    | none => rfl
    | some x => rw [q] at a; exact (a rfl).elim
theorem length_putK (kvs : List (κ × V)) (k : κ) (v : V) : (putK kvs k v).length ≤ kvs.length + 1 := by
  unfold putK
  split
  · rw [List.length_map]; omega
  · rw [List.length_append, List.length_cons, List.length_nil]; omega
theorem putK_new {kvs : List (κ × V)} {k : κ} (v : V) (h : valV kvs k = none) : putK kvs k v = kvs ++ [(k, v)] := by
  unfold putK
  rw [valV_any, h]
  exact if_neg (by decide)

theorem RelO.isSome_eq {o : Option V} {u : Option Value} (r : RelO o u) : o.isSome = u.isSome := by
  cases o with
  | none => cases u with
    | none => rfl
    | some _ => exact (show False from r).elim
  | some _ => cases u with
    | none => exact (show False from r).elim
    | some _ => rfl
theorem RelO.getD {o : Option V} {u : Option Value} {d : V} {d' : Value} (r : RelO o u) (rd : RelV d d') : RelV (o.getD d) (u.getD d') := by
  cases o with
  | none => cases u with
    | none => exact rd
    | some _ => exact (show False from r).elim
  | some _ => cases u with
    | none => exact (show False from r).elim
    | some _ => exact r

/-- raw tables of the same keys -/
theorem KV.val {kvs : List (κ × V)} {vs : List (κ × Value)} (r : KV kvs vs) (k : κ) : RelO (valV kvs k) (valueAt vs k) := by
  unfold KV at r
  induction r with
  | nil => exact True.intro
  | @cons p q ps qs h t ih =>
    obtain ⟨h1, h2⟩ := h
    by_cases e : p.1 = k
    · have e' : q.1 = k := h1.symm.trans e
      have b : valueAt (q :: qs) k = some q.2 := by simp [valueAt, List.find?_cons, e']
      rw [valV_pos e, b]; exact h2
    · have e' : ¬ q.1 = k := fun z => e (h1.trans z)
      have b : valueAt (q :: qs) k = valueAt qs k := by simp [valueAt, List.find?_cons, e']
      rw [valV_neg e, b]; exact ih
theorem KV.any {kvs : List (κ × V)} {vs : List (κ × Value)} (r : KV kvs vs) (k : κ) : (kvs.any fun kv => decide (kv.1 = k)) = vs.any fun kv => decide (kv.1 = k) := by
  unfold KV at r
  induction r with
  | nil => rfl
  | cons h t ih => rw [List.any_cons, List.any_cons, ih, h.1]
theorem KV.repl {kvs : List (κ × V)} {vs : List (κ × Value)} (r : KV kvs vs) (k : κ) {y : V} {u : Value} (ry : RelV y u) :
    KV (kvs.map fun kv => if kv.1 = k then (kv.1, y) else kv) (vs.map fun kv => if kv.1 = k then (kv.1, u) else kv) := by
  unfold KV at r ⊢
  induction r with
  | nil => exact .nil
  | @cons p q ps qs h t ih =>
    rw [List.map_cons, List.map_cons]
    refine .cons ?_ ih
    obtain ⟨h1, h2⟩ := h
    by_cases e : p.1 = k
    · rw [if_pos e, if_pos (h1.symm.trans e)]; exact ⟨h1, ry⟩
    · rw [if_neg e, if_neg (fun z => e (h1.trans z))]; exact ⟨h1, h2⟩
theorem KV.put {kvs : List (κ × V)} {vs : List (κ × Value)} (r : KV kvs vs) (k : κ) {y : V} {u : Value} (ry : RelV y u) : KV (putK kvs k y) (stored vs k u) := by
  unfold putK stored
  rw [r.any k]
  by_cases e : (vs.any fun kv => decide (kv.1 = k)) = true
  · rw [if_pos e, if_pos e]; exact r.repl k ry
  · rw [if_neg e, if_neg e]; exact Paired.snoc r ⟨rfl, ry⟩
theorem KV.drop {kvs : List (κ × V)} {vs : List (κ × Value)} (r : KV kvs vs) (k : κ) : KV (dropK kvs k) (without vs k) := by
  unfold KV at r ⊢
  unfold dropK without
  induction r with
  | nil => exact .nil
  | @cons p q ps qs h t ih =>
    obtain ⟨h1, h2⟩ := h
    rw [List.filter_cons, List.filter_cons]
    by_cases e : p.1 = k
    · have a : ¬ decide (p.1 ≠ k) = true := by simp [e]
      have b : ¬ decide (q.1 ≠ k) = true := by simp [h1.symm.trans e]
      rw [if_neg a, if_neg b]; exact ih
    · have e' : ¬ q.1 = k := fun z => e (h1.trans z)
      have a : decide (p.1 ≠ k) = true := by simp [e]
      have b : decide (q.1 ≠ k) = true := by simp [e']
      rw [if_pos a, if_pos b]; exact .cons ⟨h1, h2⟩ ih
theorem KV.keys {kvs : List (κ × V)} {vs : List (κ × Value)} (r : KV kvs vs) : kvs.map (·.1) = vs.map (·.1) := by
  unfold KV at r
  induction r with
  | nil => rfl
  | cons h t ih => rw [List.map_cons, List.map_cons, ih, h.1]
theorem KV.length {kvs : List (κ × V)} {vs : List (κ × Value)} (r : KV kvs vs) : kvs.length = vs.length := Paired.length r
theorem dropK_le (kvs : List (κ × V)) (k : κ) : (dropK kvs k).length ≤ kvs.length := List.length_filter_le _ _
end

/-! ### a tracked dict, its keys ints and texts or tuples of these -/
theorem kV_is {P : Program} {w : World} {k : Key} {u : Value} (r : RelV (kV k) u) : (mixKind P w).is k u = true := by
  cases k with
  | inl i => obtain ⟨t, e⟩ := (show ∃ t, u = Value.int i t from r); subst e; exact mixKind_int P w i t
  | inr x => obtain ⟨t, e⟩ := (show ∃ t, u = Value.str x t from r); subst e; exact mixKind_str P w x t
theorem kV_inj {a b : Key} (e : kV a = kV b) : a = b := by
  cases a with
  | inl i => cases b with
    | inl j => have e' : V.int i = V.int j := e; injection e' with e'; rw [e']
    | inr y => exact nomatch (show V.int i = V.str y from e)
  | inr x => cases b with
    | inl j => exact nomatch (show V.str x = V.int j from e)
    | inr y => have e' : V.str x = V.str y := e; injection e' with e'; rw [e']
theorem kVs_inj : ∀ {a b : List Key}, a.map kV = b.map kV → a = b
  | [], [], _ => rfl
  | [], _ :: _, e => by simp at e
  | _ :: _, [], e => by simp at e
  | x :: xs, y :: ys, e => by
    rw [List.map_cons, List.map_cons] at e
    injection e with e1 e2
    rw [kV_inj e1, kVs_inj e2]
theorem items_are {P : Program} {w : World} : ∀ {ks : List Key} {us : List Value}, Vals (ks.map kV) us → ItemsAre (mixKind P w) ks us
  | [], _, r => by rw [List.map_nil] at r; cases r; exact .nil
  | k :: ks, _, r => by
    rw [List.map_cons] at r
    cases r with
    | cons h t => exact .cons (kV_is h) (items_are t)

/-- raw entries of a dict with tuple keys -/
abbrev KT (H : Hp) : List (List Key × V) → List (List Key × Addr × Value) → Prop := Paired fun p q => p.1 = q.1 ∧ H q.2.1 = some (.tup (p.1.map kV)) ∧ RelV p.2 q.2.2
theorem KT.val {H : Hp} {kvs : List (List Key × V)} {xs : List (List Key × Addr × Value)} (r : KT H kvs xs) (k : List Key) : RelO (valV kvs k) ((atKey xs k).map (·.2)) := by
  induction r with
  | nil => exact True.intro
  | @cons p q ps qs h t ih =>
    obtain ⟨h1, _, h2⟩ := h
    by_cases e : p.1 = k
    · have e' : q.1 = k := h1.symm.trans e
      have b : atKey (q :: qs) k = some q.2 := by simp [atKey, List.find?_cons, e']
      rw [valV_pos e, b]; exact h2
    · have e' : ¬ q.1 = k := fun z => e (h1.trans z)
      have b : atKey (q :: qs) k = atKey qs k := by simp [atKey, List.find?_cons, e']
      rw [valV_neg e, b]; exact ih
theorem KT.repl {H : Hp} {kvs : List (List Key × V)} {xs : List (List Key × Addr × Value)} (r : KT H kvs xs) (k : List Key) {y : V} {u : Value} (ry : RelV y u) :
    KT H (kvs.map fun kv => if kv.1 = k then (kv.1, y) else kv) (xs.map (putAt k u)) := by
  induction r with
  | nil => exact .nil
  | @cons p q ps qs h t ih =>
    rw [List.map_cons, List.map_cons]
    refine .cons ?_ ih
    obtain ⟨h1, h2, h3⟩ := h
    unfold putAt
    by_cases e : p.1 = k
    · rw [if_pos e, if_pos (h1.symm.trans e)]; exact ⟨h1, h2, ry⟩
    · rw [if_neg e, if_neg (fun z => e (h1.trans z))]; exact ⟨h1, h2, h3⟩
theorem KT.put {H : Hp} {kvs : List (List Key × V)} {xs : List (List Key × Addr × Value)} (r : KT H kvs xs) (k : List Key) {b : Addr} {y : V} {u : Value} (hb : H b = some (.tup (k.map kV))) (ry : RelV y u) :
    KT H (putK kvs k y) (storedH xs k b u) := by
  have e : (kvs.any fun kv => decide (kv.1 = k)) = (atKey xs k).isSome := by
    rw [valV_any, (r.val k).isSome_eq, Option.isSome_map]
  unfold putK storedH
  rw [e]
  by_cases q : (atKey xs k).isSome = true
  · rw [if_pos q, if_pos q]; exact r.repl k ry
  · rw [if_neg q, if_neg q]; exact Paired.snoc r ⟨rfl, hb, ry⟩
theorem KT.keeps {H H' : Hp} {kvs : List (List Key × V)} {xs : List (List Key × Addr × Value)} (r : KT H kvs xs) (ht : ∀ b ys, H b = some (.tup ys) → H' b = some (.tup ys)) : KT H' kvs xs :=
  Paired.mapP r fun _ _ z => ⟨z.1, ht _ _ z.2.1, z.2.2⟩

section
variable {P : Program} {w : World} {H : Hp} {h : Heap} {a : Addr}
theorem rd_of {u : HO} (ok : HOk P w H h) (e : Rd H a u) : ObjOk P w H h a u := e.ok ok
theorem dk_rd {kvs : List (Key × V)} (ok : HOk P w H h) (e : Rd H a (.dK kvs)) : kvs.length ≤ sizeLine ∧ (a == sysModules) = false ∧ ∃ vs, KV kvs vs ∧ h.DictOf (mixKind P w) a vs :=
  show ObjOk P w H h a (.dK kvs) from rd_of ok e
theorem dk_of {kvs : List (Key × V)} (ok : HOk P w H h) (e : H a = some (.dK kvs)) : kvs.length ≤ sizeLine ∧ (a == sysModules) = false ∧ ∃ vs, KV kvs vs ∧ h.DictOf (mixKind P w) a vs := dk_rd ok (.inl e)
/-- a tracked tuple of ints and texts is a key -/
theorem key_of {ks : List Key} (ok : HOk P w H h) (e : H a = some (.tup (ks.map kV))) : (tupleKind (mixKind P w)).is h ks a := by
  obtain ⟨_, its, r, o, h1, h2, n, h3⟩ := (show ObjOk P w H h a (.tup (ks.map kV)) from ok a _ e)
  exact ⟨o, its.toArray, n, h1, h2, h3, by simpa using items_are r⟩
theorem dt_rd {kvs : List (List Key × V)} (ok : HOk P w H h) (e : Rd H a (.dT kvs)) : kvs.length ≤ sizeLine ∧ (a == sysModules) = false ∧
    ∃ xs, KT H kvs xs ∧ h.DictOfH (tupleKind (mixKind P w)) a xs := by
  obtain ⟨z, y, xs, r, o, es, ep, h1, h2, h3, h4, h5⟩ := (show ObjOk P w H h a (.dT kvs) from rd_of ok e)
  refine ⟨z, y, xs, r, o, es, ep, h1, h2, h3, h4, fun x hx => ?_, h5⟩
  have all : ∀ {l : List (List Key × V)} {m : List (List Key × Addr × Value)}, KT H l m → ∀ x ∈ m, (tupleKind (mixKind P w)).is h x.1 x.2.1 := by
    intro l m q
    induction q with
    | nil => intro x hx; exact nomatch hx
    | @cons p q ps qs hq t ih =>
      intro x hx
      rcases List.mem_cons.mp hx with e | hx
      · subst e
        exact key_of ok (by rw [← hq.1]; exact hq.2.1)
      · exact ih x hx
  exact all r x hx
theorem dt_of {kvs : List (List Key × V)} (ok : HOk P w H h) (e : H a = some (.dT kvs)) : kvs.length ≤ sizeLine ∧ (a == sysModules) = false ∧
    ∃ xs, KT H kvs xs ∧ h.DictOfH (tupleKind (mixKind P w)) a xs := dt_rd ok (.inl e)
end

/-- what the dict at a holds at the key y -/
def DGet (H : Hp) (a : Addr) (y : V) (r : Option V) : Prop :=
  (∃ kvs k, Rd H a (.dK kvs) ∧ y = kV k ∧ r = valV kvs k) ∨ ∃ kvs k b, Rd H a (.dT kvs) ∧ y = .ref b ∧ H b = some (.tup (k.map kV)) ∧ r = valV kvs k
/-- the heap behind a[y] = v -/
def DPut (H : Hp) (a : Addr) (y v : V) (H' : Hp) : Prop :=
  (∃ kvs k, H a = some (.dK kvs) ∧ y = kV k ∧ kvs.length < sizeLine ∧ H' = upd H a (.dK (putK kvs k v))) ∨
  ∃ kvs k b, H a = some (.dT kvs) ∧ y = .ref b ∧ H b = some (.tup (k.map kV)) ∧ kvs.length < sizeLine ∧ H' = upd H a (.dT (putK kvs k v))
theorem DGet.k {H : Hp} {a : Addr} {kvs : List (Key × V)} {k : Key} (e : H a = some (.dK kvs)) : DGet H a (kV k) (valV kvs k) := .inl ⟨kvs, k, .inl e, rfl, rfl⟩
theorem DGet.t {H : Hp} {a b : Addr} {kvs : List (List Key × V)} {k : List Key} (e : H a = some (.dT kvs)) (eb : H b = some (.tup (k.map kV))) : DGet H a (.ref b) (valV kvs k) := .inr ⟨kvs, k, b, .inl e, rfl, eb, rfl⟩
theorem DPut.k {H : Hp} {a : Addr} {kvs : List (Key × V)} {k : Key} {v : V} (e : H a = some (.dK kvs)) (hl : kvs.length < sizeLine) : DPut H a (kV k) v (upd H a (.dK (putK kvs k v))) := .inl ⟨kvs, k, e, rfl, hl, rfl⟩
theorem DPut.t {H : Hp} {a b : Addr} {kvs : List (List Key × V)} {k : List Key} {v : V} (e : H a = some (.dT kvs)) (eb : H b = some (.tup (k.map kV))) (hl : kvs.length < sizeLine) :
    DPut H a (.ref b) v (upd H a (.dT (putK kvs k v))) := .inr ⟨kvs, k, b, e, rfl, eb, hl, rfl⟩

section
variable {X : Cx} {pins : List (Addr × Obj)} {σ : St} {H : Hp} {s : Shared} {a : Addr} {y v : V} {u r : Value} {o : Option V} {A : Around} {E : Value → Shared → Prop}

theorem Inv.big (I : Inv X pins σ H s) : sysModules < s.heap.objs.size := by
  have h : mainGlobals < s.heap.objs.size := (I.mod.glob.keeps I.bk).lt
  exact Nat.lt_trans (by decide) h

/-- d[y], there -/
theorem d_getItem {Q : Value → Shared → Prop} (hu : A.units + 1 < cLine) (I : Inv X pins σ H s) (g : DGet H a y (some v)) (ry : RelV y u) (h : ∀ w' s', Inv X pins σ H s' → RelV v w' → Q w' s') :
    wpAny (model X.prog X.w) A (getItem (.ref a) u) Q E s := by
  rcases g with ⟨kvs, k, e, ey, l⟩ | ⟨kvs, k, b, e, ey, eb, l⟩
  · subst ey
    obtain ⟨z, hd, vs, rel, dd⟩ := dk_rd I.hok e
    obtain ⟨w', hw, rw'⟩ := RelO.some_of (v := v) (o := valueAt vs k) (by rw [l]; exact rel.val k)
    exact wpAny_getItem_of (kV_is ry) dd.mapOf hw (h w' _ (I.tok _) rw')
  · subst ey
    cases (show u = Value.ref b from ry)
    obtain ⟨z, hd, xs, rel, dd⟩ := dt_rd I.hok e
    obtain ⟨w', hw, rw'⟩ := RelO.some_of (v := v) (o := (atKey xs k).map (·.2)) (by rw [l]; exact rel.val k)
    obtain ⟨p, hp, hp2⟩ := Option.map_eq_some_iff.mp hw
    refine wpAny_getItem_heap (tupleKind_room_in1 hu) (key_of I.hok eb) dd hp ?_
    rw [hp2]
    exact h w' _ (I.tok _) rw'
/-- y in d -/
theorem d_in {Q : Value → Shared → Prop} (hu : A.units + 1 < cLine) (I : Inv X pins σ H s) (g : DGet H a y o) (ry : RelV y u) (h : ∀ s', Inv X pins σ H s' → Q (.bool o.isSome) s') :
    wpAny (model X.prog X.w) A (compareOp .In u (.ref a)) Q E s := by
  rcases g with ⟨kvs, k, e, ey, l⟩ | ⟨kvs, k, b, e, ey, eb, l⟩
  · subst ey
    obtain ⟨z, hd, vs, rel, dd⟩ := dk_rd I.hok e
    refine wpAny_in_of (kV_is ry) hd dd.mapOf ?_
    rw [← (rel.val k).isSome_eq, ← l]
    exact h _ (I.tok _)
  · subst ey
    cases (show u = Value.ref b from ry)
    obtain ⟨z, hd, xs, rel, dd⟩ := dt_rd I.hok e
    refine wpAny_in_heap (tupleKind_room_in1 hu) (key_of I.hok eb) hd dd ?_
    have q := (rel.val k).isSome_eq
    rw [Option.isSome_map] at q
    rw [← q, ← l]
    exact h _ (I.tok _)
theorem d_notIn {Q : Value → Shared → Prop} (hu : A.units + 1 < cLine) (I : Inv X pins σ H s) (g : DGet H a y o) (ry : RelV y u) (h : ∀ s', Inv X pins σ H s' → Q (.bool (!o.isSome)) s') :
    wpAny (model X.prog X.w) A (compareOp .NotIn u (.ref a)) Q E s := by
  rcases g with ⟨kvs, k, e, ey, l⟩ | ⟨kvs, k, b, e, ey, eb, l⟩
  · subst ey
    obtain ⟨z, hd, vs, rel, dd⟩ := dk_rd I.hok e
    refine wpAny_notIn_of (kV_is ry) hd dd.mapOf ?_
    rw [← (rel.val k).isSome_eq, ← l]
    exact h _ (I.tok _)
  · subst ey
    cases (show u = Value.ref b from ry)
    obtain ⟨z, hd, xs, rel, dd⟩ := dt_rd I.hok e
    refine wpAny_notIn_heap (tupleKind_room_in1 hu) (key_of I.hok eb) hd dd ?_
    have q := (rel.val k).isSome_eq
    rw [Option.isSome_map] at q
    rw [← q, ← l]
    exact h _ (I.tok _)
/-- a dict's object is replaced -/
theorem d_write {h' : Heap} {t' : Nat} {ob : HO} (I : Inv X pins σ H s) (mu : Mut (H a)) (hs : Heap.SameBut a s.heap h') (he : ∃ q, h'.get? a = some q) (new : ObjOk X.prog X.w (upd H a ob) h' a ob) :
    Inv X pins σ (upd H a ob) { s with heap := h', toks := t' } :=
  I.write (x := a) (e := a) mu (.inl rfl) (fun b q hb z => (hs.2 b hb).trans z) he new
theorem dk_new {P : Program} {w : World} {H' : Hp} {h' : Heap} {kvs : List (Key × V)} {vs : List (Key × Value)} (z : kvs.length ≤ sizeLine) (hd : (a == sysModules) = false) (rel : KV kvs vs) (dd : h'.DictOf (mixKind P w) a vs) :
    ObjOk P w H' h' a (.dK kvs) := ⟨z, hd, vs, rel, dd⟩
/-- d[y] = v -/
theorem d_setItem {H' : Hp} {Q : Unit → Shared → Prop} (hu : A.units + 1 < cLine) (I : Inv X pins σ H s) (g : DPut H a y v H') (ry : RelV y u) (rv : RelV v r) (h : ∀ s', Inv X pins σ H' s' → Q () s') :
    wpAny (model X.prog X.w) A (setItem (.ref a) u r) Q E s := by
  rcases g with ⟨kvs, k, e, ey, l, eH⟩ | ⟨kvs, k, b, e, ey, eb, l, eH⟩
  · subst ey eH
    obtain ⟨z, hd, vs, rel, dd⟩ := dk_of I.hok e
    have hz : vs.length ≤ sizeLine := by rw [← rel.length]; exact z
    have hl : (putK kvs k v).length ≤ sizeLine := by have := length_putK kvs k v; omega
    refine wpAny_setItem_pairs (hsz := hz) (kV_is ry) dd fun h' dd' hs => h _ ?_
    have he : ∃ q, h'.get? a = some q := let ⟨q, _, _, hq, _⟩ := dd'; ⟨q, hq⟩
    exact d_write I (by rw [e]; exact True.intro) hs he (dk_new hl hd (rel.put k rv) dd')
  · subst ey eH
    cases (show u = Value.ref b from ry)
    obtain ⟨z, hd, xs, rel, dd⟩ := dt_of I.hok e
    have hz : xs.length ≤ sizeLine := by rw [← Paired.length rel]; exact z
    have hl : (putK kvs k v).length ≤ sizeLine := by have := length_putK kvs k v; omega
    refine wpAny_setItem_heap (hsz := hz) (tupleKind_room_in1 hu) (key_of I.hok eb) dd fun h' dd' hs => h _ ?_
    obtain ⟨q, es, ep, hq, h2, h3, h4, _, h5⟩ := dd'
    refine d_write I (by rw [e]; exact True.intro) hs ⟨q, hq⟩ ⟨hl, hd, _, (rel.put k eb rv).keeps fun c ys ec => ?_, q, es, ep, hq, h2, h3, h4, h5⟩
    rw [upd_ne (ne_of ec e (fun z => nomatch z))]
    exact ec
end

section
variable {X : Cx} {pins : List (Addr × Obj)} {σ : St} {H : Hp} {s : Shared} {a : Addr} {kvs : List (Key × V)} {k : Key} {u : Value} {A : Around} {E : Value → Shared → Prop}
/-- del d[k] -/
theorem d_delItem {Q : Unit → Shared → Prop} (I : Inv X pins σ H s) (e : H a = some (.dK kvs)) (ry : RelV (kV k) u) (l : (valV kvs k).isSome = true) (h : ∀ s', Inv X pins σ (upd H a (.dK (dropK kvs k))) s' → Q () s') :
    wpAny (model X.prog X.w) A (delItem (.ref a) u) Q E s := by
  obtain ⟨z, hd, vs, rel, dd⟩ := dk_of I.hok e
  refine wpAny_delItem_slot dd.typeIs (by decide) PySem.F.slot_dict_delitem
    (call_meetsIn PySem.F.slot_dict_delitem dd.typeIs PySem.F.entry_dict_delitem (PySem.F.args_dict_delitem_2 _ _) (meets_dict_delitem_pairs (mixKind X.prog X.w) a (kV_is ry)) ⟨vs, dd, by rw [← rel.length]; exact z, by rw [← (rel.val k).isSome_eq]; exact l, fun h' dd' hs => h _ ?_⟩)
  have he : ∃ q, h'.get? a = some q := let ⟨q, _, _, hq, _⟩ := dd'; ⟨q, hq⟩
  exact d_write I (by rw [e]; exact True.intro) hs he (dk_new (Nat.le_trans (dropK_le kvs k) z) hd (rel.drop k) dd')
/-- d.pop(k[, x]), there -/
theorem d_pop {v : V} {more : List Value} {Q : Value → Shared → Prop} (I : Inv X pins σ H s) (e : H a = some (.dK kvs)) (ry : RelV (kV k) u) (l : valV kvs k = some v) (hm : more = [] ∨ ∃ x, more = [x])
    (h : ∀ w' s', Inv X pins σ (upd H a (.dK (dropK kvs k))) s' → RelV v w' → Q w' s') : wpAny (model X.prog X.w) A (call (.builtin "dict.pop") (.ref a :: u :: more)) Q E s := by
  obtain ⟨z, hd, vs, rel, dd⟩ := dk_of I.hok e
  obtain ⟨w', hw, rw'⟩ := RelO.some_of (v := v) (o := valueAt vs k) (by rw [← l]; exact rel.val k)
  have hp : (keyPart u).isSome = true := by
    cases k with
    | inl i => obtain ⟨t, q⟩ := (show ∃ t, u = Value.int i t from ry); subst q; rfl
    | inr x => obtain ⟨t, q⟩ := (show ∃ t, u = Value.str x t from ry); subst q; rfl
  have ha : argsOk "dict.pop" ⟨.ref a :: u :: more, []⟩ := by
    rcases hm with q | ⟨x, q⟩
    · subst q; exact PySem.F.args_dict_pop_2 _ _
    · subst q; exact PySem.F.args_dict_pop_3 _ _ _
  refine call_meetsIn PySem.F.slot_dict_pop dd.typeIs PySem.F.entry_dict_pop ha (meets_dict_pop_there (mixKind X.prog X.w) a (kV_is ry) more hm hp)
    ⟨vs, w', dd, by rw [← rel.length]; exact z, hw, fun h' dd' hs => h w' _ ?_ rw'⟩
  have he : ∃ q, h'.get? a = some q := let ⟨q, _, _, hq, _⟩ := dd'; ⟨q, hq⟩
  exact d_write I (by rw [e]; exact True.intro) hs he (dk_new (Nat.le_trans (dropK_le kvs k) z) hd (rel.drop k) dd')
/-- d.pop(k, x), not there -/
theorem d_popD {r : Value} {Q : Value → Shared → Prop} (I : Inv X pins σ H s) (e : H a = some (.dK kvs)) (ry : RelV (kV k) u) (l : valV kvs k = none) (h : ∀ s', Inv X pins σ H s' → Q r s') :
    wpAny (model X.prog X.w) A (call (.builtin "dict.pop") [.ref a, u, r]) Q E s := by
  obtain ⟨z, hd, vs, rel, dd⟩ := dk_of I.hok e
  have hn : valueAt vs k = none := RelO.none_of (by rw [← l]; exact rel.val k)
  have hp : (keyPart u).isSome = true := by
    cases k with
    | inl i => obtain ⟨t, q⟩ := (show ∃ t, u = Value.int i t from ry); subst q; rfl
    | inr x => obtain ⟨t, q⟩ := (show ∃ t, u = Value.str x t from ry); subst q; rfl
  exact call_meetsIn PySem.F.slot_dict_pop dd.typeIs PySem.F.entry_dict_pop (PySem.F.args_dict_pop_3 _ _ _) (meets_dict_pop_default (mixKind X.prog X.w) a (kV_is ry) hd hp r) ⟨vs, dd, hn, h _ (I.tok _)⟩
/-- d.clear() -/
theorem d_clear {Q : Value → Shared → Prop} (I : Inv X pins σ H s) (e : H a = some (.dK kvs)) (h : ∀ s', Inv X pins σ (upd H a (.dK [])) s' → Q .none s') : wpAny (model X.prog X.w) A (call (.builtin "dict.clear") [.ref a]) Q E s := by
  obtain ⟨z, hd, vs, rel, dd⟩ := dk_of I.hok e
  refine call_meetsIn PySem.F.slot_dict_clear dd.typeIs PySem.F.entry_dict_clear (PySem.F.args_dict_clear_1 _) (meets_dict_clear (mixKind X.prog X.w) a) ⟨vs, dd, by rw [← rel.length]; exact z, fun h' dd' hs => h _ ?_⟩
  have he : ∃ q, h'.get? a = some q := let ⟨q, _, _, hq, _⟩ := dd'; ⟨q, hq⟩
  exact d_write (t' := s.toks) I (by rw [e]; exact True.intro) hs he (dk_new (Nat.zero_le _) hd .nil dd')
/-- len(d) -/
theorem d_len {Q : Value → Shared → Prop} (I : Inv X pins σ H s) (e : Rd H a (.dK kvs)) (h : ∀ t s', Inv X pins σ H s' → Q (.int kvs.length t) s') : wpAny (model X.prog X.w) A (call (.builtin "len") [.ref a]) Q E s := by
  obtain ⟨z, hd, vs, rel, dd⟩ := dk_rd I.hok e
  refine call_len_dict hd dd (by rw [← rel.length]; rw [sizeLine_eq] at z; omega) ?_
  rw [← rel.length]
  exact h _ _ (I.tok _)
/-- if d -/
theorem d_truth {Q : Bool → Shared → Prop} (I : Inv X pins σ H s) (e : Rd H a (.dK kvs)) (h : ∀ s', Inv X pins σ H s' → Q (!kvs.isEmpty) s') : wpAny (model X.prog X.w) A (truthy (.ref a)) Q E s := by
  obtain ⟨z, hd, vs, rel, dd⟩ := dk_rd I.hok e
  refine wpAny_truthy_dict hd dd (by rw [← rel.length]; rw [sizeLine_eq] at z; omega) ?_
  have q : kvs.isEmpty = vs.isEmpty := by cases rel <;> rfl
  rw [← q]
  exact h _ (I.tok _)
end

/-! ### readings and rules -/
/-- the element of a subscription, not a slice -/
def NoSl (i : Expr) : Prop := ∀ ov iv, subscripted i false ov iv = operate [ov, iv] (getItem ov iv)
theorem subD_of {prog : Program} {w : World} {A : Around} {E : Value → Shared → Prop} {s : Shared} {env : Env} {value slice : Expr} {pos : Pos} {T id : String} {Q : Value → Shared → Prop}
    (hl : typeLookup (.type T) "__getitem__" = pure (some (.builtin id))) (hs : NoSl slice)
    (h : wpAny (model prog w) A (eval value env) (fun o s₁ => wpAny (model prog w) A (eval slice env) (fun i s₂ => s₂.TypeIs o T ∧ wpAny (model prog w) A (getItem o i) Q E s₂) E s₁) E s) :
    wpAny (model prog w) A (eval (.Subscript value slice pos) env) Q E s := by
  refine Subscript_ (wpAny_mono h (fun o s₁ h₁ => wpAny_mono h₁ (fun i s₂ h₂ => ?_) fun _ _ x => x) fun _ _ x => x)
  obtain ⟨hT, h₂⟩ := h₂
  unfold subscriptTail
  refine wpAny_bind ?_
  rw [getitemInPython_of_ne hT.not_modules]
  refine wpAny_bind (wpAny_specialOf hT hl ?_)
  have fin : wpAny (model prog w) A (subscripted slice false o i) (fun r s₃ => wpAny (model prog w) A (letTemporaryGo value o r >>= fun _ => pure r) Q E s₃) E s₂ := by
    rw [hs o i]
    exact wpAny_operating (wpAny_mono h₂ (fun r s₃ h₃ => wpAny_bind (wpAny_letTemporaryGo (wpAny_pure h₃))) fun _ _ x => x)
  first
    | exact wpAny_pure (wpAny_bind fin)
    | exact wpAny_bind (wpAny_pure (wpAny_bind fin))
    | exact wpAny_bind fin

theorem dict_typeIs {X : Cx} {pins : List (Addr × Obj)} {σ : St} {H : Hp} {s : Shared} {a : Addr} {y : V} {o : Option V} (I : Inv X pins σ H s) (g : DGet H a y o) : s.TypeIs (.ref a) "dict" := by
  rcases g with ⟨kvs, k, e, _, _⟩ | ⟨kvs, k, b, e, _, _, _⟩
  · obtain ⟨_, _, vs, _, dd⟩ := dk_rd I.hok e
    exact dd.typeIs
  · obtain ⟨_, _, xs, _, dd⟩ := dt_rd I.hok e
    exact dd.typeIs
theorem dict_noDict {X : Cx} {pins : List (Addr × Obj)} {σ : St} {H : Hp} {s : Shared} {a : Addr} {y : V} {o : Option V} (I : Inv X pins σ H s) (g : DGet H a y o) :
    ∀ b, Value.ref a = .ref b → ∃ ob, s.heap.get? b = some ob ∧ ob.dict = none := fun b q => by
  cases q
  rcases g with ⟨kvs, k, e, _, _⟩ | ⟨kvs, k, b, e, _, _, _⟩
  · obtain ⟨_, _, vs, _, ob, _, _, h1, h2, _⟩ := dk_rd I.hok e
    exact ⟨ob, h1, h2.2.1⟩
  · obtain ⟨_, _, xs, _, ob, _, _, h1, h2, _⟩ := dt_rd I.hok e
    exact ⟨ob, h1, h2.2.1⟩

/-- d[y] -/
def tDGet (td ty : TE) : TE := fun σ H Q => td σ H fun x H1 => ty σ H1 fun y H2 => ∃ a v, x = .ref a ∧ DGet H2 a y (some v) ∧ Q v H2
/-- y in d, y not in d -/
def tDIn (ty td : TE) : TE := fun σ H Q => ty σ H fun y H1 => td σ H1 fun x H2 => ∃ a o, x = .ref a ∧ DGet H2 a y o ∧ Q (.bl o.isSome) H2
def tDNotIn (ty td : TE) : TE := fun σ H Q => ty σ H fun y H1 => td σ H1 fun x H2 => ∃ a o, x = .ref a ∧ DGet H2 a y o ∧ Q (.bl (!o.isSome)) H2
/-- d[y] = v -/
def sDPut (td ty tv : TE) : TS := fun D σ H => tv σ H fun v H1 => td σ H1 fun x H2 => ty σ H2 fun y H3 => ∃ a H4, x = .ref a ∧ DPut H3 a y v H4 ∧ D.nx σ H4
/-- d[y] op= v -/
def sDAug (td ty tv : TE) (rd : V → V → Hp → VK → Prop) : TS := fun D σ H => td σ H fun x H1 => ty σ H1 fun y H2 => ∃ a v, x = .ref a ∧ DGet H2 a y (some v) ∧
  tv σ H2 fun y2 H3 => rd v y2 H3 fun z H4 => ∃ H5, DPut H4 a y z H5 ∧ D.nx σ H5
/-- del d[y] -/
def sDDel (td ty : TE) : TS := fun D σ H => td σ H fun x H1 => ty σ H1 fun y H2 => ∃ a kvs k, x = .ref a ∧ H2 a = some (.dK kvs) ∧ y = kV k ∧ (valV kvs k).isSome = true ∧ D.nx σ (upd H2 a (.dK (dropK kvs k)))

section
variable {X : Cx} {o i e value : Expr} {pos pos' tpos : Pos} {td ty tv : TE}
theorem pe_dget (hu : X.A.units + 1 < cLine) (ho : PE X o td) (hi : PE X i ty) (hs : NoSl i) : PE X (.Subscript o i pos) (tDGet td ty) := by
  intro pins s σ H Q I h
  refine subD_of PySem.F.slot_dict_getitem.lookup hs (thn (ho pins s σ H _ I h) fun u s1 ⟨x, H1, I1, rx, q1⟩ => thn (hi pins s1 σ H1 _ I1 q1) fun iv s2 ⟨y, H2, I2, ry, a, v, ex, g, q2⟩ => ?_)
  subst ex
  obtain rfl : u = Value.ref a := rx
  exact ⟨dict_typeIs I2 g, d_getItem hu I2 g ry fun w' s3 I3 rw' => ⟨v, H2, I3, rw', q2⟩⟩
theorem pc_din (hu : X.A.units + 1 < cLine) (hi : PE X i ty) (ho : PE X o td) : PC X .In i o (tDIn ty td) := by
  intro pins s σ H Q I h
  refine thn (hi pins s σ H _ I h) fun iv s1 ⟨y, H1, I1, ry, q1⟩ => thn (ho pins s1 σ H1 _ I1 q1) fun u s2 ⟨x, H2, I2, rx, a, ov, ex, g, q2⟩ => ?_
  subst ex
  obtain rfl : u = Value.ref a := rx
  exact d_in hu I2 g ry fun s3 I3 => ⟨.bl ov.isSome, H2, I3, rfl, q2⟩
theorem pc_dnotin (hu : X.A.units + 1 < cLine) (hi : PE X i ty) (ho : PE X o td) : PC X .NotIn i o (tDNotIn ty td) := by
  intro pins s σ H Q I h
  refine thn (hi pins s σ H _ I h) fun iv s1 ⟨y, H1, I1, ry, q1⟩ => thn (ho pins s1 σ H1 _ I1 q1) fun u s2 ⟨x, H2, I2, rx, a, ov, ex, g, q2⟩ => ?_
  subst ex
  obtain rfl : u = Value.ref a := rx
  exact d_notIn hu I2 g ry fun s3 I3 => ⟨.bl (!ov.isSome), H2, I3, rfl, q2⟩
theorem ps_dput (hu : X.A.units + 1 < cLine) (ho : PE X o td) (hi : PE X i ty) (hv : PE X value tv) (hs : swapsWith value (some (.Subscript o i pos')) pos.line X.env = pure false) :
    PS X (.Assign [.Subscript o i pos'] value pos) (sDPut td ty tv) := by
  intro pins s σ H D I h
  refine wpAny_Assign_Subscript (thn (hv pins s σ H _ I h) fun r s1 ⟨v, H1, I1, rv, q1⟩ => thn (ho pins s1 σ H1 _ I1 q1) fun u s2 ⟨x, H2, I2, rx, q2⟩ => thn (hi pins s2 σ H2 _ I2 q2) fun iv s3 ⟨y, H3, I3, ry, a, H4, ex, g, q3⟩ => ?_) hs
  subst ex
  obtain rfl : u = Value.ref a := rx
  exact d_setItem hu I3 g ry rv fun s4 I4 => ⟨σ, H4, I4, q3⟩
theorem ps_daug {op : Operator} {rd : V → V → Hp → VK → Prop} (hu : X.A.units + 1 < cLine) (ho : PE X o td) (hi : PE X i ty) (hv : PE X value tv) (hop : InOp X op rd)
    (ha : ∀ ov iv new, augStore i ov iv new = (do holding [new, ov, iv] (setItem ov iv new); release [new, ov, iv] []; pure .next)) : PS X (.AugAssign (.Subscript o i tpos) op value pos) (sDAug td ty tv rd) := by
  intro pins s σ H D I h
  refine wpAny_AugAssign_SubscriptAny (thn (ho pins s σ H _ I h) fun u s1 ⟨x, H1, I1, rx, q1⟩ => thn (hi pins s1 σ H1 _ I1 q1) fun iv s2 ⟨y, H2, I2, ry, a, v, ex, g, q2⟩ => ?_) ha
  subst ex
  obtain rfl : u = Value.ref a := rx
  refine d_getItem hu I2 g ry fun w' s3 I3 rw' => thn (hv pins s3 σ H2 _ I3 q2) fun w2 s4 ⟨y2, H3, I4, ry2, q3⟩ => thn (hop pins s4 σ H3 v y2 w' w2 _ I4 rw' ry2 q3) fun w3 s5 ⟨z, H4, I5, rz, H5, g5, q4⟩ => ?_
  exact d_setItem hu I5 g5 ry rz fun s6 I6 => ⟨σ, H5, I6, q4⟩
theorem ps_ddel (ho : PE X o td) (hi : PE X i ty) : PS X (.Delete [.Subscript o i tpos] pos) (sDDel td ty) := by
  intro pins s σ H D I h
  refine wpAny_Delete (wpAny_deleteEach_cons (wpAny_delete_Subscript (thn (ho pins s σ H _ I h) fun u s1 ⟨x, H1, I1, rx, q1⟩ => thn (hi pins s1 σ H1 _ I1 q1) fun iv s2 ⟨y, H2, I2, ry, a, kvs, k, ex, e, ey, l, q2⟩ => ?_)))
  subst ex ey
  obtain rfl : u = Value.ref a := rx
  exact d_delItem I2 e ry l fun s3 I3 => wpAny_deleteEach_nil ⟨σ, _, I3, q2⟩
end

/-! ### displays -/
theorem dk_empty {P : Program} {w : World} {H : Hp} (h : Heap) (hb : sysModules < h.objs.size) : ObjOk P w H (h.push { cls := .type "dict", data := .dict #[] }) h.objs.size (.dK []) :=
  ⟨Nat.zero_le _, beq_eq_false_iff_ne.mpr (Ne.symm (Nat.ne_of_lt hb)), [], .nil, Heap.DictOf.new h⟩
theorem dt_empty {P : Program} {w : World} {H : Hp} (h : Heap) (hb : sysModules < h.objs.size) : ObjOk P w H (h.push { cls := .type "dict", data := .dict #[] }) h.objs.size (.dT []) :=
  ⟨Nat.zero_le _, beq_eq_false_iff_ne.mpr (Ne.symm (Nat.ne_of_lt hb)), [], .nil, _, #[], 0, Heap.get?_push_size _ rfl, ⟨rfl, rfl, rfl⟩, rfl, rfl, List.nodup_nil⟩
/-- {}, to be a dict of the kind that is wanted -/
def tDNewK : TE := fun _ H Q => ∀ p, H p = none → Q (.ref p) (upd H p (.dK []))
def tDNewT : TE := fun _ H Q => ∀ p, H p = none → Q (.ref p) (upd H p (.dT []))
section
variable {X : Cx} {pos : Pos}
theorem pe_dnewK : PE X (.Dict [] [] pos) tDNewK := fun pins s σ H Q I h =>
  wpAny_Dict_empty ⟨.ref s.heap.objs.size, _, I.laid (a := s.heap.objs.size) (o := .dK []) (t' := s.toks) (fun _ _ q => Heap.get?_push_of_some _ q) (Nat.le_refl _) (dk_empty s.heap I.big), rfl, h _ (I.hok.fresh (Nat.le_refl _))⟩
theorem pe_dnewT : PE X (.Dict [] [] pos) tDNewT := fun pins s σ H Q I h =>
  wpAny_Dict_empty ⟨.ref s.heap.objs.size, _, I.laid (a := s.heap.objs.size) (o := .dT []) (t' := s.toks) (fun _ _ q => Heap.get?_push_of_some _ q) (Nat.le_refl _) (dt_empty s.heap I.big), rfl, h _ (I.hok.fresh (Nat.le_refl _))⟩
end

/-- the pairs of a display, from the left -/
def tPairs : List (TE × TE) → St → Hp → (List (V × V) → Hp → Prop) → Prop
  | [], _, H, Q => Q [] H
  | (tk, tv) :: r, σ, H, Q => tk σ H fun x H1 => tv σ H1 fun y H2 => tPairs r σ H2 fun ps H3 => Q ((x, y) :: ps) H3
abbrev VV : List (V × V) → List (Value × Value) → Prop := Paired fun p q => RelV p.1 q.1 ∧ RelV p.2 q.2
def PPs (X : Cx) (pos : Pos) (keys : List (Option Expr)) (values : List Expr) (trs : List (TE × TE)) : Prop :=
  ∀ (pins : List (Addr × Obj)) (s : Shared) (σ : St) (H : Hp) (Q : List (V × V) → Hp → Prop), Inv X pins σ H s → tPairs trs σ H Q →
    wpAny (model X.prog X.w) X.A (evalPairs (pairTrees keys values X.env pos)) (fun vs s' => ∃ ps H', Inv X pins σ H' s' ∧ VV ps vs ∧ Q ps H') X.xe s
theorem pps_nil {X : Cx} {pos : Pos} : PPs X pos [] [] [] := fun pins s σ H Q I h => pairTrees_nil_walk ⟨[], H, I, .nil, h⟩
theorem pps_cons {X : Cx} {pos : Pos} {k v : Expr} {ks : List (Option Expr)} {vs : List Expr} {tk tv : TE} {trs : List (TE × TE)} (hk : PE X k tk) (hv : PE X v tv) (hr : PPs X pos ks vs trs) :
    PPs X pos (some k :: ks) (v :: vs) ((tk, tv) :: trs) := fun pins s σ H Q I h =>
  pairTrees_cons_walk (thn (hk pins s σ H _ I h) fun u s1 ⟨x, H1, I1, rx, q1⟩ => thn (hv pins s1 σ H1 _ I1 q1) fun w2 s2 ⟨y, H2, I2, ry, q2⟩ =>
    thn (hr pins s2 σ H2 _ I2 q2) fun ws s3 ⟨ps, H3, I3, rel, q3⟩ => ⟨(x, y) :: ps, H3, I3, .cons ⟨rx, ry⟩ rel, q3⟩)

def mergeK (kvs more : List (Key × V)) : List (Key × V) := more.foldl (fun acc kv => putK acc kv.1 kv.2) kvs
theorem KV.merge : ∀ {more : List (Key × V)} {rs : List (Key × Value)} {kvs : List (Key × V)} {vs : List (Key × Value)}, KV more rs → KV kvs vs → KV (mergeK kvs more) (merged vs rs) := by
  intro more rs kvs vs r
  unfold KV at r
  induction r generalizing kvs vs with
  | nil => intro q; exact q
  | @cons p q ps qs h t ih =>
    intro r0
    have e : KV (putK kvs p.1 p.2) (stored vs q.1 q.2) := by
      have := r0.put p.1 h.2
      rw [← h.1]; exact this
    exact ih e
theorem length_mergeK : ∀ (more kvs : List (Key × V)), (mergeK kvs more).length ≤ kvs.length + more.length
  | [], kvs => by show kvs.length ≤ kvs.length + 0; omega
  | p :: r, kvs => by
    have h1 := length_mergeK r (putK kvs p.1 p.2)
    have h2 := length_putK kvs p.1 p.2
    show (mergeK (putK kvs p.1 p.2) r).length ≤ _
    rw [List.length_cons]; omega
theorem carries_of {P : Program} {w : World} : ∀ {kvs : List (Key × V)} {ws : List (Value × Value)}, VV (kvs.map fun kv => (kV kv.1, kv.2)) ws → ∃ rs, Carries (mixKind P w) ws rs ∧ KV kvs rs
  | [], _, r => by rw [List.map_nil] at r; cases r; exact ⟨[], True.intro, .nil⟩
  | p :: kvs, _, r => by
    rw [List.map_cons] at r
    cases r with
    | @cons a b as bs h t =>
      obtain ⟨rs, c, q⟩ := carries_of (P := P) (w := w) t
      obtain ⟨b1, b2⟩ := b
      exact ⟨(p.1, b2) :: rs, ⟨kV_is h.1, rfl, c⟩, .cons ⟨rfl, h.2⟩ q⟩
/-- {k: v, ..} with keys ints and texts; the new dict stands empty while the pairs are made -/
def tDisp (trs : List (TE × TE)) : TE := fun σ H Q => ∀ p, H p = none → tPairs trs σ (upd H p (.dK [])) fun ps H2 => H2 p = some (.dK []) ∧ ∃ kvs : List (Key × V), ps = kvs.map (fun kv => (kV kv.1, kv.2)) ∧ kvs.length ≤ 15 ∧ Q (.ref p) (upd H2 p (.dK (mergeK [] kvs)))
theorem pe_disp {X : Cx} {pos : Pos} {keys : List (Option Expr)} {values : List Expr} {trs : List (TE × TE)} (h : PPs X pos keys values trs) (hall : keys.all (·.isSome) = true) (hl : keys.length = values.length) (h0 : keys ≠ [])
    (h15 : keys.length ≤ 15) : PE X (.Dict keys values pos) (tDisp trs) := by
  intro pins s σ H Q I q
  have hn := I.hok.fresh (Nat.le_refl s.heap.objs.size)
  have I1 := I.laid (a := s.heap.objs.size) (o := .dK []) (h' := s.heap.push { cls := .type "dict", data := .dict #[] }) (t' := s.toks) (fun _ _ q => Heap.get?_push_of_some _ q) (Nat.le_refl _) (dk_empty s.heap I.big)
  refine wpAny_Dict_walk (knd := mixKind X.prog X.w) hall hl h0 h15 (thn (h pins _ σ _ _ I1 (q _ hn)) fun ws s2 ⟨ps, H2, I2, rel, e, kvs, ep, lk, q2⟩ => ?_)
  subst ep
  obtain ⟨rs, c, rk⟩ := carries_of (P := X.prog) (w := X.w) rel
  obtain ⟨z, hd, vs0, r0, dd⟩ := dk_of I2.hok e
  cases r0
  refine ⟨rs, c, dd, fun h' dd' hs => ⟨.ref s.heap.objs.size, _, ?_, rfl, q2⟩⟩
  have hz : (mergeK [] kvs).length ≤ sizeLine := by
    have h1 := length_mergeK kvs []
    rw [List.length_nil] at h1
    rw [sizeLine_eq]; omega
  have he : ∃ q, h'.get? s.heap.objs.size = some q := let ⟨q, _, _, hq, _⟩ := dd'; ⟨q, hq⟩
  exact d_write I2 (by rw [e]; exact True.intro) hs he (dk_new hz hd (rk.merge .nil) dd')

/-! ### methods -/
/-- a method call o.m(e) of a built-in, with one argument: what must be seen of the text -/
structure M1 (X : Cx) (o : Expr) (m : Str) (apos : Pos) (e : Expr) (cpos : Pos) : Prop where
  base : attributeBase o m X.env (eval o X.env) = eval o X.env
  few : ((backTo cpos (starEach [e] X.env)).all (fun x => !x.1) && (backToKw cpos (keywordEach [] X.env)).all (fun x => x.1.isSome)
    && decide (([e] : List Expr).length + ([] : List Keyword).length + (if ([] : List Keyword).isEmpty then 0 else 1) < 30)) = true
  line : (apos.endLine == cpos.line) = true
  trees : backTo cpos (starEach [e] X.env) = [(false, eval e X.env)]
structure M2 (X : Cx) (o : Expr) (m : Str) (apos : Pos) (e f : Expr) (cpos : Pos) : Prop where
  base : attributeBase o m X.env (eval o X.env) = eval o X.env
  few : ((backTo cpos (starEach [e, f] X.env)).all (fun x => !x.1) && (backToKw cpos (keywordEach [] X.env)).all (fun x => x.1.isSome)
    && decide (([e, f] : List Expr).length + ([] : List Keyword).length + (if ([] : List Keyword).isEmpty then 0 else 1) < 30)) = true
  line : (apos.endLine == cpos.line) = true
  trees : backTo cpos (starEach [e, f] X.env) = [(false, eval e X.env), (false, eval f X.env)]

/-- a is a dict, whatever its keys -/
def IsD (H : Hp) (a : Addr) : Prop := (∃ kvs, Rd H a (.dK kvs)) ∨ ∃ kvs, Rd H a (.dT kvs)
theorem isD_at {X : Cx} {pins : List (Addr × Obj)} {σ : St} {H : Hp} {s : Shared} {a : Addr} (I : Inv X pins σ H s) (d : IsD H a) :
    s.TypeIs (.ref a) "dict" ∧ (∀ b, Value.ref a = .ref b → ∃ ob, s.heap.get? b = some ob ∧ ob.dict = none) ∧ (a == sysModules) = false := by
  rcases d with ⟨kvs, e⟩ | ⟨kvs, e⟩
  · obtain ⟨_, hd, vs, _, dd⟩ := dk_rd I.hok e
    refine ⟨dd.typeIs, fun b q => ?_, hd⟩
    cases q
    obtain ⟨ob, _, _, h1, h2, _⟩ := dd
    exact ⟨ob, h1, h2.2.1⟩
  · obtain ⟨_, hd, xs, _, dd⟩ := dt_rd I.hok e
    refine ⟨dd.typeIs, fun b q => ?_, hd⟩
    cases q
    obtain ⟨ob, _, _, h1, h2, _⟩ := dd
    exact ⟨ob, h1, h2.2.1⟩

section
variable {X : Cx} {pins : List (Addr × Obj)} {σ : St} {H : Hp} {s : Shared} {a : Addr} {y d : V} {u r : Value} {o : Option V} {A : Around} {E : Value → Shared → Prop}
/-- d.get(y) -/
theorem d_get1 {Q : Value → Shared → Prop} (hu : A.units + 1 < cLine) (I : Inv X pins σ H s) (g : DGet H a y o) (ry : RelV y u) (h : ∀ w' s', Inv X pins σ H s' → RelV (o.getD .non) w' → Q w' s') :
    wpAny (model X.prog X.w) A (call (.builtin "dict.get") [.ref a, u]) Q E s := by
  rcases g with ⟨kvs, k, e, ey, l⟩ | ⟨kvs, k, b, e, ey, eb, l⟩
  · subst ey
    obtain ⟨z, hd, vs, rel, dd⟩ := dk_rd I.hok e
    refine call_meetsIn PySem.F.slot_dict_get dd.typeIs PySem.F.entry_dict_get (PySem.F.args_dict_get_2 _ _) (meets_dict_get (mixKind X.prog X.w) a (kV_is ry) hd) ⟨_, dd.mapOf, h _ _ (I.tok _) ?_⟩
    rw [l]
    exact (rel.val k).getD rfl
  · subst ey
    cases (show u = Value.ref b from ry)
    obtain ⟨z, hd, xs, rel, dd⟩ := dt_rd I.hok e
    refine call_meetsIn PySem.F.slot_dict_get dd.typeIs PySem.F.entry_dict_get (PySem.F.args_dict_get_2 _ _) (meetsH_dict_get (tupleKind (mixKind X.prog X.w)) a b hd) ⟨tupleKind_room_in1 hu, k, xs, key_of I.hok eb, dd, h _ _ (I.tok _) ?_⟩
    rw [l]
    exact (rel.val k).getD rfl
/-- d.get(y, x) -/
theorem d_get2 {Q : Value → Shared → Prop} (hu : A.units + 1 < cLine) (I : Inv X pins σ H s) (g : DGet H a y o) (ry : RelV y u) (rd : RelV d r) (h : ∀ w' s', Inv X pins σ H s' → RelV (o.getD d) w' → Q w' s') :
    wpAny (model X.prog X.w) A (call (.builtin "dict.get") [.ref a, u, r]) Q E s := by
  rcases g with ⟨kvs, k, e, ey, l⟩ | ⟨kvs, k, b, e, ey, eb, l⟩
  · subst ey
    obtain ⟨z, hd, vs, rel, dd⟩ := dk_rd I.hok e
    refine call_meetsIn PySem.F.slot_dict_get dd.typeIs PySem.F.entry_dict_get (PySem.F.args_dict_get_3 _ _ _) (meets_dict_get_default (mixKind X.prog X.w) a (kV_is ry) hd r) ⟨_, dd.mapOf, h _ _ (I.tok _) ?_⟩
    rw [l]
    exact (rel.val k).getD rd
  · subst ey
    cases (show u = Value.ref b from ry)
    obtain ⟨z, hd, xs, rel, dd⟩ := dt_rd I.hok e
    refine call_meetsIn PySem.F.slot_dict_get dd.typeIs PySem.F.entry_dict_get (PySem.F.args_dict_get_3 _ _ _) (meetsH_dict_get_default (tupleKind (mixKind X.prog X.w)) a b hd r) ⟨tupleKind_room_in1 hu, k, xs, key_of I.hok eb, dd, h _ _ (I.tok _) ?_⟩
    rw [l]
    exact (rel.val k).getD rd
end

def tDGet1 (td ty : TE) : TE := fun σ H Q => td σ H fun x H1 => ∃ a, x = .ref a ∧ IsD H1 a ∧ ty σ H1 fun y H2 => ∃ o, DGet H2 a y o ∧ Q (o.getD .non) H2
def tDGet2 (td ty tx : TE) : TE := fun σ H Q => td σ H fun x H1 => ∃ a, x = .ref a ∧ IsD H1 a ∧ ty σ H1 fun y H2 => tx σ H2 fun z H3 => ∃ o, DGet H3 a y o ∧ Q (o.getD z) H3
/-- d.pop(k): there; d.pop(k, x): there or not -/
def tDPop1 (td ty : TE) : TE := fun σ H Q => td σ H fun x H1 => ∃ a, x = .ref a ∧ IsD H1 a ∧ ty σ H1 fun y H2 => ∃ kvs k v, H2 a = some (.dK kvs) ∧ y = kV k ∧ valV kvs k = some v ∧ Q v (upd H2 a (.dK (dropK kvs k)))
def tDPop2 (td ty tx : TE) : TE := fun σ H Q => td σ H fun x H1 => ∃ a, x = .ref a ∧ IsD H1 a ∧ ty σ H1 fun y H2 => tx σ H2 fun z H3 => ∃ kvs k, H3 a = some (.dK kvs) ∧ y = kV k ∧
  (∀ v, valV kvs k = some v → Q v (upd H3 a (.dK (dropK kvs k)))) ∧ (valV kvs k = none → Q z H3)
section
variable {X : Cx} {o e f : Expr} {apos cpos : Pos} {td ty tx : TE}
theorem pe_dget1 (hu : X.A.units + 1 < cLine) (ho : PE X o td) (he : PE X e ty) (m : M1 X o "get" apos e cpos) : PE X (.Call (.Attribute o "get" apos) [e] [] cpos) (tDGet1 td ty) := by
  intro pins s σ H Q I h
  refine wpAny_Call_method m.base m.few m.line PySem.F.plainAttrs_dict PySem.F.slot_dict_get PySem.F.type_dict_get (thn (ho pins s σ H _ I h) fun u s1 ⟨x, H1, I1, rx, a, ex, d, q1⟩ => ?_)
  subst ex
  obtain rfl : u = Value.ref a := rx
  obtain ⟨t1, t2, _⟩ := isD_at I1 d
  refine ⟨t1, t2, ?_⟩
  rw [m.trees]
  refine Calls.callWith_builtin rfl (Calls.evalArgs_plain (Calls.spliced_cons (thn (he pins s1 σ H1 _ I1 q1) fun iv s2 ⟨y, H2, I2, ry, ov, g, q2⟩ => Calls.spliced_nil ?_)))
  exact d_get1 hu I2 g ry fun w' s3 I3 rw' => ⟨_, H2, I3, rw', q2⟩
theorem pe_dget2 (hu : X.A.units + 1 < cLine) (ho : PE X o td) (he : PE X e ty) (hf : PE X f tx) (m : M2 X o "get" apos e f cpos) : PE X (.Call (.Attribute o "get" apos) [e, f] [] cpos) (tDGet2 td ty tx) := by
  intro pins s σ H Q I h
  refine wpAny_Call_method m.base m.few m.line PySem.F.plainAttrs_dict PySem.F.slot_dict_get PySem.F.type_dict_get (thn (ho pins s σ H _ I h) fun u s1 ⟨x, H1, I1, rx, a, ex, d, q1⟩ => ?_)
  subst ex
  obtain rfl : u = Value.ref a := rx
  obtain ⟨t1, t2, _⟩ := isD_at I1 d
  refine ⟨t1, t2, ?_⟩
  rw [m.trees]
  refine Calls.callWith_builtin rfl (Calls.evalArgs_plain (Calls.spliced_cons (thn (he pins s1 σ H1 _ I1 q1) fun iv s2 ⟨y, H2, I2, ry, q2⟩ =>
    Calls.spliced_cons (thn (hf pins s2 σ H2 _ I2 q2) fun fv s3 ⟨z, H3, I3, rz, ov, g, q3⟩ => Calls.spliced_nil ?_))))
  exact d_get2 hu I3 g ry rz fun w' s4 I4 rw' => ⟨_, H3, I4, rw', q3⟩
theorem pe_dpop1 (ho : PE X o td) (he : PE X e ty) (m : M1 X o "pop" apos e cpos) : PE X (.Call (.Attribute o "pop" apos) [e] [] cpos) (tDPop1 td ty) := by
  intro pins s σ H Q I h
  refine wpAny_Call_method m.base m.few m.line PySem.F.plainAttrs_dict PySem.F.slot_dict_pop PySem.F.type_dict_pop (thn (ho pins s σ H _ I h) fun u s1 ⟨x, H1, I1, rx, a, ex, d, q1⟩ => ?_)
  subst ex
  obtain rfl : u = Value.ref a := rx
  obtain ⟨t1, t2, _⟩ := isD_at I1 d
  refine ⟨t1, t2, ?_⟩
  rw [m.trees]
  refine Calls.callWith_builtin rfl (Calls.evalArgs_plain (Calls.spliced_cons (thn (he pins s1 σ H1 _ I1 q1) fun iv s2 ⟨y, H2, I2, ry, kvs, k, v, ea, ey, l, q2⟩ => Calls.spliced_nil ?_)))
  subst ey
  exact d_pop I2 ea ry l (.inl rfl) fun w' s3 I3 rw' => ⟨v, _, I3, rw', q2⟩
theorem pe_dpop2 (ho : PE X o td) (he : PE X e ty) (hf : PE X f tx) (m : M2 X o "pop" apos e f cpos) : PE X (.Call (.Attribute o "pop" apos) [e, f] [] cpos) (tDPop2 td ty tx) := by
  intro pins s σ H Q I h
  refine wpAny_Call_method m.base m.few m.line PySem.F.plainAttrs_dict PySem.F.slot_dict_pop PySem.F.type_dict_pop (thn (ho pins s σ H _ I h) fun u s1 ⟨x, H1, I1, rx, a, ex, d, q1⟩ => ?_)
  subst ex
  obtain rfl : u = Value.ref a := rx
  obtain ⟨t1, t2, _⟩ := isD_at I1 d
  refine ⟨t1, t2, ?_⟩
  rw [m.trees]
  refine Calls.callWith_builtin rfl (Calls.evalArgs_plain (Calls.spliced_cons (thn (he pins s1 σ H1 _ I1 q1) fun iv s2 ⟨y, H2, I2, ry, q2⟩ =>
    Calls.spliced_cons (thn (hf pins s2 σ H2 _ I2 q2) fun fv s3 ⟨z, H3, I3, rz, kvs, k, ea, ey, q3, q4⟩ => Calls.spliced_nil ?_))))
  subst ey
  cases l : valV kvs k with
  | some v => exact d_pop I3 ea ry l (.inr ⟨fv, rfl⟩) fun w' s4 I4 rw' => ⟨v, _, I4, rw', q3 v l⟩
  | none => exact d_popD I3 ea ry l fun s4 I4 => ⟨z, H3, I4, rz, q4 l⟩
end

/-! ### dict(d): a copy -/
section
variable {X : Cx} {pins : List (Addr × Obj)} {σ : St} {H : Hp} {s : Shared} {a : Addr} {kvs : List (Key × V)} {A : Around} {E : Value → Shared → Prop}
theorem d_copyOf {Q : Value → Shared → Prop} (I : Inv X pins σ H s) (e : Rd H a (.dK kvs)) (h : ∀ p s', H p = none → Inv X pins σ (upd H p (.dK kvs)) s' → Q (.ref p) s') : wpAny (model X.prog X.w) A (call (.type "dict") [.ref a]) Q E s := by
  obtain ⟨z, hd, vs, rel, dd⟩ := dk_rd I.hok e
  refine kt_call_dict hd dd (by rw [← rel.length]; exact z) fun h' dd' hs => ?_
  refine h _ _ (I.hok.fresh (Nat.le_refl _)) (I.laid (a := s.heap.objs.size) (o := .dK kvs) (t' := s.toks) (fun b q hq => ?_) (Nat.le_refl _) (dk_new z (beq_eq_false_iff_ne.mpr (Ne.symm (Nat.ne_of_lt I.big))) rel dd'))
  exact (hs.2 b (Nat.ne_of_lt (Heap.lt_size hq))).trans (Heap.get?_push_of_some _ hq)
end

section
variable {X : Cx} {pins : List (Addr × Obj)} {σ : St} {H : Hp} {s : Shared} {a : Addr} {y : V} {u : Value} {A : Around} {E : Value → Shared → Prop}
/-- d[y], not there: a KeyError -/
theorem d_missing {Q : Value → Shared → Prop} (hu : A.units + 1 < cLine) (hh : A.handled = none) (I : Inv X pins σ H s) (g : DGet H a y none) (ry : RelV y u)
    (h : ∀ h' e t', Heap.NewExc s.heap h' e "KeyError" → E (.ref e) { s with heap := h', toks := t' }) : wpAny (model X.prog X.w) A (getItem (.ref a) u) Q E s := by
  rcases g with ⟨kvs, k, e, ey, l⟩ | ⟨kvs, k, b, e, ey, eb, l⟩
  · subst ey
    obtain ⟨z, hd, vs, rel, dd⟩ := dk_rd I.hok e
    have hn : valueAt vs k = none := RelO.none_of (by rw [l]; exact rel.val k)
    exact wpAny_getItem_missing_of (kV_is ry) hd hh dd.mapOf hn fun h' ex ne => h h' ex _ ne
  · subst ey
    cases (show u = Value.ref b from ry)
    obtain ⟨z, hd, xs, rel, dd⟩ := dt_rd I.hok e
    have hn : (atKey xs k).map (·.2) = none := RelO.none_of (by rw [l]; exact rel.val k)
    exact wpAny_getItem_missing_heap (tupleKind_room_in1 hu) (key_of I.hok eb) hd hh dd (Option.map_eq_none_iff.mp hn) fun h' ex ne => h h' ex _ ne
end
end L2
namespace L2
open PySem PySem.Spec PyProof.Rows
/-! ### a dict's pairs: keys that differ -/
section
variable {κ : Type} [DecidableEq κ]
theorem valV_not {kvs : List (κ × V)} {k : κ} (h : valV kvs k = none) : ¬ k ∈ kvs.map (·.1) := by
  intro m
  obtain ⟨p, hp, e⟩ := List.mem_map.mp m
  have q : (kvs.any fun kv => decide (kv.1 = k)) = true := List.any_eq_true.mpr ⟨p, hp, decide_eq_true e⟩
  rw [valV_any, h] at q
  exact absurd q (by simp)
theorem valV_in {kvs : List (κ × V)} {k : κ} {v : V} (h : valV kvs k = some v) : k ∈ kvs.map (·.1) := by
  have q : (kvs.any fun kv => decide (kv.1 = k)) = true := by
    rw [valV_any, h]
    all_goals rfl
  obtain ⟨p, hp, e⟩ := List.any_eq_true.mp q
  exact List.mem_map.mpr ⟨p, hp, of_decide_eq_true e⟩
theorem nd_snoc : ∀ {l : List κ} {k : κ}, l.Nodup → ¬ k ∈ l → (l ++ [k]).Nodup
  | [], k, _, _ => by simp
  | a :: r, k, h, hk => by
    obtain ⟨h1, h2⟩ := List.nodup_cons.mp h
    show (a :: (r ++ [k])).Nodup
    refine List.nodup_cons.mpr ⟨fun m => ?_, nd_snoc h2 fun m => hk (List.mem_cons.mpr (Or.inr m))⟩
    rcases List.mem_append.mp m with q | q
    · exact h1 q
    · exact hk (List.mem_cons.mpr (Or.inl (List.mem_singleton.mp q).symm))
theorem nd_putK {kvs : List (κ × V)} {k : κ} (v : V) (hn : (kvs.map (·.1)).Nodup) (h : valV kvs k = none) : ((putK kvs k v).map (·.1)).Nodup := by
  rw [putK_new v h, List.map_append]
  exact nd_snoc hn (valV_not h)
theorem dropK_pos {p : κ × V} {r : List (κ × V)} {k : κ} (e : p.1 = k) : dropK (p :: r) k = dropK r k := by
  unfold dropK
  rw [List.filter_cons, if_neg (by simp [e])]
theorem dropK_neg {p : κ × V} {r : List (κ × V)} {k : κ} (e : ¬ p.1 = k) : dropK (p :: r) k = p :: dropK r k := by
  unfold dropK
  rw [List.filter_cons, if_pos (by simp [e])]
theorem dropK_no : ∀ {kvs : List (κ × V)} {k : κ}, ¬ k ∈ kvs.map (·.1) → dropK kvs k = kvs
  | [], _, _ => rfl
  | p :: r, k, h => by
    have h' : ¬ k ∈ r.map (·.1) := fun m => by
      obtain ⟨q, hq, e⟩ := List.mem_map.mp m
      exact h (List.mem_map.mpr ⟨q, List.mem_cons.mpr (Or.inr hq), e⟩)
    rw [dropK_neg fun e => h (List.mem_map.mpr ⟨p, List.mem_cons.mpr (Or.inl rfl), e⟩), dropK_no h']
theorem dropK_mem {kvs : List (κ × V)} {k : κ} {p : κ × V} (h : p ∈ dropK kvs k) : p ∈ kvs := (List.mem_filter.mp h).1
theorem nd_dropK : ∀ {kvs : List (κ × V)} {k : κ}, (kvs.map (·.1)).Nodup → ((dropK kvs k).map (·.1)).Nodup
  | [], _, _ => List.nodup_nil
  | p :: r, k, h => by
    have h : (p.1 :: r.map (·.1)).Nodup := h
    obtain ⟨h1, h2⟩ := List.nodup_cons.mp h
    by_cases e : p.1 = k
    · rw [dropK_pos e]
      exact nd_dropK h2
    · rw [dropK_neg e]
      show (p.1 :: (dropK r k).map (·.1)).Nodup
      refine List.nodup_cons.mpr ⟨fun m => h1 ?_, nd_dropK h2⟩
      obtain ⟨q, hq, eq⟩ := List.mem_map.mp m
      exact List.mem_map.mpr ⟨q, dropK_mem hq, eq⟩
theorem dropK_len : ∀ {kvs : List (κ × V)} {k : κ}, (kvs.map (·.1)).Nodup → k ∈ kvs.map (·.1) → (dropK kvs k).length + 1 = kvs.length
  | [], _, _, m => by simp at m
  | p :: r, k, h, m => by
    have h : (p.1 :: r.map (·.1)).Nodup := h
    have m : k = p.1 ∨ k ∈ r.map (·.1) := List.mem_cons.mp m
    obtain ⟨h1, h2⟩ := List.nodup_cons.mp h
    by_cases e : p.1 = k
    · subst e
      rw [dropK_pos rfl, dropK_no h1]
      all_goals rfl
    · have m' : k ∈ r.map (·.1) := m.resolve_left fun z => e z.symm
      have q := dropK_len h2 m'
      rw [dropK_neg e, List.length_cons, List.length_cons]
      omega
end
end L2

set_option Elab.async false
set_option linter.all false
set_option maxRecDepth 100000
namespace L2
open PySem PySem.Spec PyProof.Rows
/-! ## dicts whose keys are cells: rules by values -/
section
variable {X : Cx}
def rIxD : R2 := fun x y H Q => ∃ a v, x = .ref a ∧ DGet H a y (some v) ∧ Q v H
theorem ix_dict (hu : X.A.units + 60 < cLine) : IxR X rIxD := by
  intro value slice pins s σ H x y v u Q I rx ry h hs
  obtain ⟨a, z, rfl, g, q⟩ := h
  cases rx
  exact tail_any (ops := [.ref a, u]) (dict_typeIs I g) PySem.F.slot_dict_getitem.lookup (d_getItem (by omega) I g ry fun w' s3 I3 rw' => ⟨z, H, I3, rw', q⟩) hs
def rInDict (neg : Bool) : R2 := fun y x H Q => ∃ a o, x = .ref a ∧ DGet H a y o ∧ Q (.bl (if neg then !o.isSome else o.isSome)) H
theorem op_inDict (hu : X.A.units + 60 < cLine) : OpR X (compareOp .In) (rInDict false) := by
  intro pins s σ H y x u v Q I ry rx h
  obtain ⟨a, o, rfl, g, q⟩ := h
  cases rx
  exact d_in (by omega) I g ry fun s3 I3 => ⟨.bl o.isSome, H, I3, rfl, q⟩
theorem op_notInDict (hu : X.A.units + 60 < cLine) : OpR X (compareOp .NotIn) (rInDict true) := by
  intro pins s σ H y x u v Q I ry rx h
  obtain ⟨a, o, rfl, g, q⟩ := h
  cases rx
  exact d_notIn (by omega) I g ry fun s3 I3 => ⟨.bl (!o.isSome), H, I3, rfl, q⟩
def rSetD : V → V → V → Hp → (Hp → Prop) → Prop := fun o i v H Q => ∃ a H', o = .ref a ∧ DPut H a i v H' ∧ Q H'
theorem set_dict (hu : X.A.units + 60 < cLine) : PSet X rSetD := by
  intro pins s σ H o i v ov iv u Q I ro ri rv h
  obtain ⟨a, H', rfl, g, q⟩ := h
  cases ro
  exact d_setItem (by omega) I g ri rv fun s4 I4 => ⟨H', I4, q⟩
end
end L2

set_option Elab.async false
set_option linter.all false
set_option maxRecDepth 100000
namespace L2
open PySem PySem.Spec PyProof.Rows
/-! ## {cell: v}; {} for cells -/
section
variable {X : Cx} {pos : Pos} {k v : Expr} {tk tv : TE}
def tDict1 (tk tv : TE) : TE := fun σ H Q => ∀ p, H p = none → tk σ (upd H p (.dT [])) fun x H1 => tv σ H1 fun y H2 => ∃ ks b, H2 p = some (.dT []) ∧ x = .ref b ∧ H2 b = some (.tup (ks.map kV)) ∧ Q (.ref p) (upd H2 p (.dT [(ks, y)]))
theorem pe_dict1 (hu : X.A.units + 60 < cLine) (hk : PE X k tk) (hv : PE X v tv) : PE X (.Dict [some k] [v] pos) (tDict1 tk tv) := by
  intro pins s σ H Q I q
  have hn := I.hok.fresh (Nat.le_refl s.heap.objs.size)
  have I1 := I.laid (a := s.heap.objs.size) (o := .dT []) (h' := s.heap.push { cls := .type "dict", data := .dict #[] }) (t' := s.toks) (fun _ _ z => Heap.get?_push_of_some _ z) (Nat.le_refl _) (dt_empty s.heap I.big)
  refine wpAny_Dict_any rfl rfl (by intro z; cases z) (by show 1 ≤ 15; decide) ?_
  have pp : PPs X pos [some k] [v] [(tk, tv)] := pps_cons hk hv pps_nil
  refine thn (pp pins _ σ _ (fun ps H2 => match ps with
    | [(x, y)] => ∃ ks b, H2 s.heap.objs.size = some (.dT []) ∧ x = .ref b ∧ H2 b = some (.tup (ks.map kV)) ∧ Q (.ref s.heap.objs.size) (upd H2 s.heap.objs.size (.dT [(ks, y)]))
    | _ => False) I1 (q _ hn)) fun ws s2 h => ?_
  obtain ⟨ps, H2, I2, rel, h⟩ := h
  cases rel with
  | nil => exact h.elim
  | @cons p1 w1 ps' ws' r1 rel' =>
    cases rel' with
    | cons _ _ => exact h.elim
    | nil =>
      obtain ⟨x, y⟩ := p1
      obtain ⟨u, r⟩ := w1
      obtain ⟨ks, b, e, ex, eb, q2⟩ := h
      subst ex
      obtain ⟨ru, ry⟩ := r1
      cases (show u = Value.ref b from ru)
      obtain ⟨z, hd, xs, rel, dd⟩ := dt_of I2.hok e
      cases rel
      show wpAny (model X.prog X.w) X.A (storeAll s.heap.objs.size [(.ref b, r)]) _ _ s2
      unfold storeAll
      rw [List.forIn_cons]
      refine wpAny_bind (wpAny_bind (wpAny_dictSet_heap (knd := tupleKind (mixKind X.prog X.w)) (show X.A.units < cLine by omega) (key_of I2.hok eb) dd fun h' dd' hs => wpAny_pure ?_))
      dsimp only
      rw [List.forIn_nil]
      refine wpAny_pure ?_
      obtain ⟨o, es, ep, ho, h2, h3, h4, _, h5⟩ := dd'
      refine ⟨.ref s.heap.objs.size, _, d_write (ob := .dT [(ks, y)]) I2 (by rw [e]; exact True.intro) hs ⟨o, ho⟩ ⟨by show 1 ≤ sizeLine; rw [sizeLine_eq]; decide, hd, _, (KT.put (kvs := []) (xs := []) .nil ks eb ry).keeps fun c ys ec => ?_, o, es, ep, ho, h2, h3, h4, h5⟩, rfl, q2⟩
      rw [upd_ne (ne_of ec e (fun z => nomatch z))]
      exact ec
theorem r_dict1 (hu : X.A.units + 60 < cLine) (hk : RE X k tk) (hv : RE X v tv) : RE X (.Dict [some k] [v] pos) (tDict1 tk tv) := ⟨pe_dict1 hu hk.ok hv.ok⟩
theorem r_dnewT : RE X (.Dict [] [] pos) tDNewT := ⟨pe_dnewT⟩
end
end L2

set_option Elab.async false
set_option linter.all false
set_option maxRecDepth 100000
namespace L2
open PySem PySem.Spec PyProof.Rows
/-! ## Methods of own classes -/
structure Mth (P : Program) (w : World) (K : PySem.W.Frag) (mg : Str → Option Value) (base : Heap) (k : Nat) (C : Addr) (m : Str) (ps : List Str) (sp : Sp) : Prop where
  ex : ∃ f fd, Meth K C m f ∧ FnOk P w K mg base (CXE P w) k f fd ps sp ∧ Binds K fd ps []
  cl : Cls K C
section
variable {X : Cx} {k j : Nat} {ps : List Str} {sp : Sp} {E : XK} {m : Str} {pos apos : Pos} {o e : Expr} {es : List Expr} {ta : TE} {t : TA} {C : Addr}
theorem meth_eq {env : Env} {args : List Expr} (hbase : attributeBase o m env (eval o env) = eval o env) (hs : args.all notStar = true) (hlen : decide (args.length < 30) = true) (hline : (apos.endLine == pos.line) = true) :
    eval (.Call (.Attribute o m apos) args [] pos) env = (do
      let v ← eval o env
      standAt apos.atName
      let (g, before) ← holding [v] (getMethod v m (do return (← importBound o env).getD true))
      callWith pos g before (backTo pos (starEach args env)) (backToKw pos (keywordEach [] env))) := by
  have form : methodCallForm (args.length + ([] : List Keyword).length) (backTo pos (starEach args env)) (backToKw pos (keywordEach [] env)) = true := by
    unfold methodCallForm
    rw [few_of hs]
    have : decide (args.length + ([] : List Keyword).length + (if (backToKw pos (keywordEach [] env)).isEmpty then 0 else 1) < 30) = true := by
      have := of_decide_eq_true hlen
      exact decide_eq_true (by show args.length + 0 + 0 < 30; omega)
    rw [this]; rfl
  rw [arm_eval_Call, hbase]
  unfold methodCall calleeOf methodCallPos
  rw [form]
  simp only [hline, if_true, Bool.or_true, pure_bind]
theorem r_meth0 (D : Mth X.prog X.w X.K X.mg X.base k C m ps sp) (hr : Room j X.A) (hx : Passes (CXE X.prog X.w) X E) (ho : RE X o ta) (hk : k ≤ j := by decide)
    (hbase : attributeBase o m X.env (eval o X.env) = eval o X.env := by rfl) (hline : (apos.endLine == pos.line) = true := by rfl) : RE X (.Call (.Attribute o m apos) [] [] pos) (tMeth C m sp [] E ta tNil) := by
  obtain ⟨f, fd, M, F, hb⟩ := D.ex
  exact ⟨pe_meth0 ho.ok D.cl M F (hr.mono hk) hb .nil hx (ht := meth_eq hbase rfl rfl hline)⟩
theorem r_meth (D : Mth X.prog X.w X.K X.mg X.base k C m ps sp) (hr : Room j X.A) (hx : Passes (CXE X.prog X.w) X E) (ho : RE X o ta) (ha : RA X (e :: es) t) (hk : k ≤ j := by decide) (h1 : (e :: es).all notStar = true := by rfl)
    (hbase : attributeBase o m X.env (eval o X.env) = eval o X.env := by rfl) (hlen : decide ((e :: es).length < 30) = true := by rfl) (hline : (apos.endLine == pos.line) = true := by rfl) :
    RE X (.Call (.Attribute o m apos) (e :: es) [] pos) (tMeth C m sp [] E ta t) := by
  obtain ⟨f, fd, M, F, hb⟩ := D.ex
  have h1' := h1
  rw [List.all_cons, Bool.and_eq_true] at h1'
  exact ⟨pe_meth ho.ok D.cl M F (hr.mono hk) hb .nil hx ha.ok (hst := st_of h1'.1) (hpl := np_of h1'.2) (ht := meth_eq hbase h1 hlen hline)⟩
/-! ## d.get(k, x) -/
variable {f : Expr} {td ty tx : TE}
theorem r_dget2 (hu : X.A.units + 60 < cLine) (ho : RE X o td) (he : RE X e ty) (hf : RE X f tx) (m : M2 X o "get" apos e f pos) : RE X (.Call (.Attribute o "get" apos) [e, f] [] pos) (tDGet2 td ty tx) := ⟨pe_dget2 (by omega) ho.ok he.ok hf.ok m⟩
end
/-! ## len of a dict of cells -/
section
variable {P : Program} {w : World}
theorem lenT_meets {κ : Type} [DecidableEq κ] (knd : HeapKind P w κ) (d : Addr) (lo : (d == sysModules) = false) :
    MeetsIn P w (Builtin.«dict.__len__» ⟨[.ref d], []⟩) (fun _ R s => ∃ xs, s.heap.DictOfH knd d xs ∧ ∀ t t', R (.ok (.ret (.int xs.length t))) { s with toks := t' }) :=
  .of_wp fun A R s hyp => by
    obtain ⟨xs, dd, q⟩ := hyp
    obtain ⟨ob, en, ep, g1, g2, g3, g4, g5⟩ := dd
    have n : en.size = xs.length := size_of_entries g4
    show wpAny _ _ (dictSize d >>= _) _ _ s
    unfold dictSize
    refine wpAny_bind (wpAny_bind (wpAny_dictEntries g1 g3 (wpAny_pure ?_)))
    show wpAny _ _ (Builtin.Dict.pendingCount d >>= _) _ _ s
    refine wpAny_bind (wpAny_pendingCount_other lo (wpAny_ret_mkInt ?_))
    rw [Nat.add_zero, n]
    exact q _ _
end
section
variable {X : Cx}
def rLenT : List V → Hp → VK → Prop := fun xs H Q => ∃ a kvs, xs = [.ref a] ∧ H a = some (.dT kvs) ∧ Q (.int kvs.length) H
theorem call_lenT : CallR X (.builtin "len") rLenT := by
  intro pins s σ H xs us Q I r h
  obtain ⟨a, kvs, rfl, e, q⟩ := h
  obtain ⟨u, rfl, ru⟩ := vals1 r
  cases ru
  obtain ⟨z, lo, ws, rel, dd⟩ := dt_of I.hok e
  have n : ws.length = kvs.length := (Paired.length rel).symm
  have small' : ((kvs.length : Nat) : Int) < 2 ^ 63 := by rw [sizeLine_eq] at z; omega
  refine Calls.call_function_entry kind_len plain_len entry_len (args_len1 _) ?_
  unfold Builtin.«len»
  refine wpAny_bind (m := oneArg "len" _) (wpAny_pure (wpAny_bind (m := callSpecial? (.ref a) (Str.ofString "__len__")) ?_))
  refine wpAny_callSpecial?_slot (name := Str.ofString "__len__") dd.typeIs PySem.F.slot_dict_len (call_meetsIn PySem.F.slot_dict_len dd.typeIs PySem.F.entry_dict_len (PySem.F.args_dict_len_1 _) (lenT_meets _ a lo) ⟨ws, dd, fun t t' => ?_⟩)
  rw [n]
  refine wpAny_bind (wpAny_holding (wpAny_pure (wpAny_bind (wpAny_letGo ?_))))
  show wpAny _ _ (if ((kvs.length : Nat) : Int) < 0 then _ else _) _ _ _
  rw [if_neg (by omega)]
  show wpAny _ _ (if ((kvs.length : Nat) : Int) ≥ 2 ^ 63 then _ else _) _ _ _
  rw [if_neg (by omega)]
  exact wpAny_bind (wpAny_mkInt (wpAny_pure ⟨_, rfl, .int kvs.length, H, I.tok _, ⟨_, rfl⟩, q⟩))
/-! ## isinstance of an own instance; str of a text -/
def rIsiO (K : PySem.W.Frag) : List V → Hp → VK → Prop := fun xs H Q => ∃ a C dx fs cv c, xs = [.ref a, c] ∧ clsV c = some cv ∧ H a = some (.ins C dx fs) ∧ PySem.W.kitOne K (.ref C) cv = some true ∧ Q (.bl true) H
theorem call_isiO : CallR X (.builtin "isinstance") (rIsiO X.K) := by
  intro pins s σ H xs us Q I r h
  obtain ⟨a, C, dx, fs, cv, c, rfl, hc, e, hk, q⟩ := h
  obtain ⟨u, u', rfl, ru, rc⟩ := vals2 r
  have e' := clsV_is hc rc
  subst e'
  cases ru
  obtain ⟨mA, O, _⟩ := ins_get I.hok e
  refine call_isinstance (S := fun _ R s' => (X.K.In s'.heap ∧ (fun h : Heap => ∃ o, h.get? a = some o ∧ o.cls = .ref C) s'.heap) ∧ ∀ tk, R (.ok (.ret (.bool true))) { s' with toks := tk })
    (fun prog w A R s' hs => isinstance_outer (yes_ans (K := X.K) (t := .ref C) (Hp' := fun h => ∃ o, h.get? a = some o ∧ o.cls = .ref C) (fun M h p => ?_) hk 0 _ prog w A R s' hs) (by intro z; cases z)) ⟨⟨I.kIn, ⟨_, O.obj, rfl⟩⟩, fun tk => ⟨.bl true, H, I.tok tk, rfl, q⟩⟩
  obtain ⟨o, h1, h2⟩ := p
  exact h2 ▸ (PySem.W.Looks.ld h1).andThen .now
theorem k_isiO {K : PySem.W.Frag} (hK : X.K = K := by rfl) : CallR X (.builtin "isinstance") (rIsiO K) := by subst hK; exact call_isiO
def rStrG : List V → Hp → VK → Prop := fun xs H Q => (∃ i : Int, xs = [.int i] ∧ i.natAbs.log2 < 1920 ∧ Q (.str (toString i)) H) ∨ ∃ z : Str, xs = [.str z] ∧ Q (.str z) H
theorem call_strG : CallR X (.type "str") rStrG := by
  intro pins s σ H xs us Q I r h
  rcases h with h | ⟨z, rfl, q⟩
  · exact call_str_int pins s σ H xs us Q I r h
  · obtain ⟨u, rfl, t, rfl⟩ := vals1 r
    exact PySem.P.str_of_str ⟨.str _, H, I, ⟨_, rfl⟩, q⟩
def rLenE (K : PySem.W.Frag) : List V → Hp → VK → Prop := fun xs H Q => rLenG K xs H Q ∨ rLenT xs H Q
theorem k_lenE {K : PySem.W.Frag} (hK : X.K = K := by rfl) : CallR X (.builtin "len") (rLenE K) := by subst hK; exact CallR.or k_len call_lenT
end
/-! ## A class that is not under another -/
theorem miss_of {K : PySem.W.Frag} {C C' : Addr} (c : ErrCls K C) (e : PySem.W.kitOne K (.ref C) (.ref C') = some false) : C ≠ C' ∧ ErrCls K C ∧ excMiss K C C' = true := by
  unfold PySem.W.kitOne at e
  by_cases q : (Value.ref C == Value.ref C') = true
  · rw [if_pos q] at e; cases e
  rw [if_neg q] at e
  refine ⟨fun z => q (by rw [z]; exact beq_self_eq_true _), c, ?_⟩
  have hx := c.ex
  unfold PySem.W.excIn at hx
  split at hx
  · rename_i dd cd sl ho
    have e2 : PySem.W.mroIn K C (.ref C') = some false := by
      have e' : (if ((PySem.W.clsIn K C').isSome && PySem.W.typeIn K (.ref C') == some (.type "type")) = true then PySem.W.mroIn K C (.ref C') else none) = some false := e
      split at e'
      · exact e'
      · cases e'
    unfold PySem.W.mroIn PySem.W.clsIn at e2
    rw [ho] at e2
    unfold excMiss
    rw [ho]
    have e3 : (if cd.mro.isEmpty then none else some (cd.mro.contains (.ref C'))) = some false := e2
    split at e3
    · cases e3
    · injection e3 with e3
      show (!cd.mro.contains (.ref C')) = true
      rw [e3]; rfl
  · cases hx
/-! ## What is no tuple may be written: cells stay -/
def Tups (H H' : Hp) : Prop := ∀ b xs, H b = some (.tup xs) → H' b = some (.tup xs)
theorem Same.tups {H H' : Hp} (s : Same H H') : Tups H H' := fun b xs e => s b _ e
theorem Tups.refl (H : Hp) : Tups H H := fun _ _ e => e
theorem Tups.trans {H H1 H2 : Hp} (a : Tups H H1) (b : Tups H1 H2) : Tups H H2 := fun c xs e => b c xs (a c xs e)
theorem Tups.put {H : Hp} {x : Addr} {o u : HO} (hx : H x = some o) (no : ∀ xs, o ≠ .tup xs) : Tups H (upd H x u) := fun b xs e => by
  rw [upd_ne (fun z => by rw [z, hx] at e; exact no xs (Option.some.inj e))]; exact e
section
variable {K : PySem.W.Frag} {H H' : Hp}
theorem Tups.cell {v : V} {x : Cell} (s : Tups H H') (h : Den K H v (cellD x)) : Den K H' v (cellD x) := by
  obtain ⟨a, rfl, _, ht⟩ := cell_ref h
  exact .tup (s _ _ ht) (.cons (.int _) (.cons (.int _) .nil))
theorem Tups.cells (s : Tups H H') : ∀ {vs : List V} {cs : List Cell}, Dens K H vs (cs.map cellD) → Dens K H' vs (cs.map cellD)
  | [], [], _ => .nil
  | v :: vs, c :: cs, .cons h t => .cons (s.cell h) (s.cells t)
end
/-! ## Games as the program holds them -/
def keyC (c : Cell) : List Key := [.inl c.1, .inl c.2]
def fGame (f h d : Addr) (b : Bool) : List (Str × V) := putF "lost" (.bl b) (putF "figures" (.ref d) (putF "hidden" (.ref h) (putF "field" (.ref f) [])))
theorem g_lost (f h d : Addr) (b : Bool) : (fGame f h d b).lookup ("lost" : Str) = some (.bl b) := by
  unfold fGame; rw [lookup_putF, if_pos rfl]
theorem g_figures (f h d : Addr) (b : Bool) : (fGame f h d b).lookup ("figures" : Str) = some (.ref d) := by
  unfold fGame; rw [lookup_putF, if_neg (by decide +kernel), lookup_putF, if_pos rfl]
theorem g_hidden (f h d : Addr) (b : Bool) : (fGame f h d b).lookup ("hidden" : Str) = some (.ref h) := by
  unfold fGame; rw [lookup_putF, if_neg (by decide +kernel), lookup_putF, if_neg (by decide +kernel), lookup_putF, if_pos rfl]
theorem g_field (f h d : Addr) (b : Bool) : (fGame f h d b).lookup ("field" : Str) = some (.ref f) := by
  unfold fGame; rw [lookup_putF, if_neg (by decide +kernel), lookup_putF, if_neg (by decide +kernel), lookup_putF, if_neg (by decide +kernel), lookup_putF, if_pos rfl]
theorem g_none (f h d : Addr) (b : Bool) {m : Str} (h1 : m ≠ "lost") (h2 : m ≠ "figures") (h3 : m ≠ "hidden") (h4 : m ≠ "field") : (fGame f h d b).lookup m = none := by
  unfold fGame; rw [lookup_putF, if_neg h1, lookup_putF, if_neg h2, lookup_putF, if_neg h3, lookup_putF, if_neg h4]; rfl
/-- what the dict of the figures holds -/
def figsL (h w : Int) (st kn : List Cell) : List (List Key × V) := kn.map fun c => (keyC c, V.int (figN h w st c))
theorem keyC_inj {a b : Cell} (e : keyC a = keyC b) : a = b := by
  unfold keyC at e
  injection e with e1 e2
  injection e2 with e2 _
  injection e1 with e1
  injection e2 with e2
  exact Prod.ext e1 e2
theorem figs_val (h w : Int) (st : List Cell) (c : Cell) : ∀ kn : List Cell, valV (figsL h w st kn) (keyC c) = if c ∈ kn then some (.int (figN h w st c)) else none
  | [] => rfl
  | a :: kn => by
    show valV ((keyC a, V.int (figN h w st a)) :: figsL h w st kn) (keyC c) = _
    by_cases e : a = c
    · subst e
      rw [valV_pos rfl, if_pos List.mem_cons_self]
    · rw [valV_neg (fun z => e (keyC_inj z)), figs_val h w st c kn]
      by_cases m : c ∈ kn
      · rw [if_pos m, if_pos (List.mem_cons_of_mem _ m)]
      · rw [if_neg m, if_neg (fun z => (List.mem_cons.mp z).elim (fun q => e q.symm) m)]
def blankL (h w : Nat) : List Str := shownL h w [] []
theorem code_shown {h w : Nat} {st kn : List Cell} {r c : Nat} (hr : r < h) (hc : c < w) : codeAt (shownL h w st kn) (r, c) = sgnN h w st kn ((r : Int), (c : Int)) := by
  unfold codeAt shownL
  have e : (((List.range h).map fun r : Nat => rowN h w st kn (r : Int) w).getD r Str.empty) = rowN h w st kn (r : Int) w := by
    rw [List.getD_eq_getElem?_getD, List.getElem?_map, List.getElem?_range hr]; rfl
  show (((List.range h).map fun r : Nat => rowN h w st kn (r : Int) w).getD r Str.empty).cps.getD c 0 = _
  rw [e]
  unfold rowN
  simp [Array.getD, hc]
theorem closed_shown {h w : Nat} {st kn : List Cell} {x : Cell} : closedB (shownL h w st kn) w x = (decide (inF h w x) && !decide (x ∈ kn)) := by
  have ll : (shownL h w st kn).length = h := by unfold shownL; rw [List.length_map, List.length_range]
  unfold closedB
  rw [ll]
  by_cases hi : inF h w x
  · obtain ⟨⟨a1, a2⟩, a3, a4⟩ := id hi
    have e1 : x = (((x.1.toNat : Nat) : Int), ((x.2.toNat : Nat) : Int)) := Prod.ext (by show x.1 = _; omega) (by show x.2 = _; omega)
    rw [decide_eq_true hi, Bool.true_and, Bool.true_and, code_shown (by omega) (by omega), ← e1]
    unfold sgnN
    by_cases hk : x ∈ kn
    · rw [if_pos hk, decide_eq_true hk]
      exact decide_eq_false (by omega)
    · rw [if_neg hk, decide_eq_false hk]; rfl
  · rw [decide_eq_false hi, Bool.false_and, Bool.false_and]
/-- a game stands at g: its field of h rows of w cells, the stones st, the cells kn opened so far -/
structure GameAt (K : PySem.W.Frag) (C CV : Addr) (H : Hp) (g : Addr) (h w : Nat) (st kn : List Cell) (lost : Bool) (f hd d : Addr) : Prop where
  ob : ∃ dx, H g = some (.ins C dx (fGame f hd d lost))
  fl : ViewAt CV H f (blankL h w) w
  hs : Ls K H hd (st.map cellD)
  dc : H d = some (.dT (figsL h w st kn))
theorem GameAt.mono {K : PySem.W.Frag} {C CV : Addr} {H H' : Hp} {g : Addr} {h w : Nat} {st kn : List Cell} {lost : Bool} {f hd d : Addr} (G : GameAt K C CV H g h w st kn lost f hd d) (s : Same H H') : GameAt K C CV H' g h w st kn lost f hd d :=
  ⟨let ⟨dx, e⟩ := G.ob; ⟨dx, s _ _ e⟩, G.fl.mono s, G.hs.mono s, s _ _ G.dc⟩
end L2

set_option Elab.async false
set_option linter.all false
set_option maxRecDepth 100000
set_option maxHeartbeats 1000000
-- FIELDS View rows height width
-- FIELDS Game field hidden figures lost
-- KIT bf | .ref Z.BadView | .ref Z.FieldError | true
-- KIT bv | .ref Z.BadView | .type "ValueError" | true
-- KIT lf | .ref Z.BadLaying | .ref Z.FieldError | true
-- KIT lv | .ref Z.BadLaying | .type "ValueError" | true
-- KIT lb | .ref Z.BadLaying | .ref Z.BadView | false
-- KIT gg | .ref Z.Game | .ref Z.Game | true
namespace My
open PySem L2
def top (i : Nat) : Stmt := PySem.Challenge.pw_dampfield_k16_games_refused.main.body.getD i (.Pass ⟨0, 0, 0, 0⟩)
abbrev s__wall : Stmt := top 0
theorem sc__wall : FnScope ["k"] ["k"] (defScope s__wall) := ⟨rfl, rfl, rfl, by decide +kernel, rfl, by decide +kernel, by decide +kernel⟩
abbrev s_is_row : Stmt := top 10
theorem sc_is_row : FnScope ["row", "width"] ["row", "width"] (defScope s_is_row) := ⟨rfl, rfl, rfl, by decide +kernel, rfl, by decide +kernel, by decide +kernel⟩
abbrev s_is_size : Stmt := top 11
theorem sc_is_size : FnScope ["height", "width"] ["height", "width"] (defScope s_is_size) := ⟨rfl, rfl, rfl, by decide +kernel, rfl, by decide +kernel, by decide +kernel⟩
abbrev s_is_view : Stmt := top 12
theorem sc_is_view : FnScope ["rows"] ["rows"] (defScope s_is_view) := ⟨rfl, rfl, rfl, by decide +kernel, rfl, by decide +kernel, by decide +kernel⟩
abbrev s_View___init__ : Stmt := inClass (top 13) 0
theorem sc_View___init__ : FnScope ["self", "rows"] ["self", "rows"] (defScope s_View___init__) := ⟨rfl, rfl, rfl, by decide +kernel, rfl, by decide +kernel, by decide +kernel⟩
abbrev s_has_cell : Stmt := top 14
theorem sc_has_cell : FnScope ["view", "cell"] ["view", "cell"] (defScope s_has_cell) := ⟨rfl, rfl, rfl, by decide +kernel, rfl, by decide +kernel, by decide +kernel⟩
abbrev s_is_closed : Stmt := top 15
theorem sc_is_closed : FnScope ["view", "cell"] ["view", "cell"] (defScope s_is_closed) := ⟨rfl, rfl, rfl, by decide +kernel, rfl, by decide +kernel, by decide +kernel⟩
abbrev s_is_laying : Stmt := top 16
theorem sc_is_laying : FnScope ["view", "laying", "place"] ["view", "laying"] (defScope s_is_laying) := ⟨rfl, rfl, rfl, by decide +kernel, rfl, by decide +kernel, by decide +kernel⟩
abbrev s_Game___init__ : Stmt := inClass (top 18) 0
theorem sc_Game___init__ : FnScope ["self", "height", "width", "stones", "field"] ["self", "height", "width", "stones"] (defScope s_Game___init__) := ⟨rfl, rfl, rfl, by decide +kernel, rfl, by decide +kernel, by decide +kernel⟩
abbrev s_Game_uncover : Stmt := inClass (top 18) 1
theorem sc_Game_uncover : FnScope ["self", "cell"] ["self", "cell"] (defScope s_Game_uncover) := ⟨rfl, rfl, rfl, by decide +kernel, rfl, by decide +kernel, by decide +kernel⟩
abbrev s_Game_view : Stmt := inClass (top 18) 2
theorem sc_Game_view : FnScope ["self", "rows", "row", "signs"] ["self"] (defScope s_Game_view) := ⟨rfl, rfl, rfl, by decide +kernel, rfl, by decide +kernel, by decide +kernel⟩
abbrev s_Game_state : Stmt := inClass (top 18) 3
theorem sc_Game_state : FnScope ["self"] ["self"] (defScope s_Game_state) := ⟨rfl, rfl, rfl, by decide +kernel, rfl, by decide +kernel, by decide +kernel⟩
abbrev s__law_cell_at : Stmt := top 20
theorem sc__law_cell_at : FnScope ["script", "k"] ["script", "k"] (defScope s__law_cell_at) := ⟨rfl, rfl, rfl, by decide +kernel, rfl, by decide +kernel, by decide +kernel⟩
abbrev s__law_mix : Stmt := top 21
theorem sc__law_mix : FnScope ["cell", "k", "many", "some", "stir"] ["cell", "k", "many"] (defScope s__law_mix) := ⟨rfl, rfl, rfl, by decide +kernel, rfl, by decide +kernel, by decide +kernel⟩
abbrev s__law_near : Stmt := top 22
theorem sc__law_near : FnScope ["height", "width", "cell", "found", "dr", "dc", "one"] ["height", "width", "cell"] (defScope s__law_near) := ⟨rfl, rfl, rfl, by decide +kernel, rfl, by decide +kernel, by decide +kernel⟩
abbrev s__law_sizes : Stmt := top 23
theorem sc__law_sizes : FnScope ["rows"] ["rows"] (defScope s__law_sizes) := ⟨rfl, rfl, rfl, by decide +kernel, rfl, by decide +kernel, by decide +kernel⟩
abbrev s__law_cells : Stmt := top 24
theorem sc__law_cells : FnScope ["rows", "signs", "found", "r"] ["rows", "signs"] (defScope s__law_cells) := ⟨rfl, rfl, rfl, by decide +kernel, rfl, by decide +kernel, by decide +kernel⟩
abbrev s__law_field_by : Stmt := top 25
theorem sc__law_field_by : FnScope ["script", "most", "cell", "height", "width", "thin", "stones", "r", "c"] ["script", "most"] (defScope s__law_field_by) := ⟨rfl, rfl, rfl, by decide +kernel, rfl, by decide +kernel, by decide +kernel⟩
abbrev s__law_figure : Stmt := top 26
theorem sc__law_figure : FnScope ["height", "width", "stones", "cell"] ["height", "width", "stones", "cell"] (defScope s__law_figure) := ⟨rfl, rfl, rfl, by decide +kernel, rfl, by decide +kernel, by decide +kernel⟩
abbrev s__law_shown : Stmt := top 27
theorem sc__law_shown : FnScope ["height", "width", "stones", "known", "rows", "r", "row", "c"] ["height", "width", "stones", "known"] (defScope s__law_shown) := ⟨rfl, rfl, rfl, by decide +kernel, rfl, by decide +kernel, by decide +kernel⟩
abbrev s__law_opened : Stmt := top 28
theorem sc__law_opened : FnScope ["height", "width", "stones", "known", "cell", "found", "at"] ["height", "width", "stones", "known", "cell"] (defScope s__law_opened) := ⟨rfl, rfl, rfl, by decide +kernel, rfl, by decide +kernel, by decide +kernel⟩
abbrev s__law_hurt : Stmt := top 29
theorem sc__law_hurt : FnScope ["height", "width", "stones", "cell", "way", "off", "bad"] ["height", "width", "stones", "cell"] (defScope s__law_hurt) := ⟨rfl, rfl, rfl, by decide +kernel, rfl, by decide +kernel, by decide +kernel⟩
abbrev s__law_met : Stmt := top 30
theorem sc__law_met : FnScope ["height", "width", "stones", "e"] ["height", "width", "stones"] (defScope s__law_met) := ⟨rfl, rfl, rfl, by decide +kernel, rfl, by decide +kernel, by decide +kernel⟩
abbrev s_law : Stmt := top 31
theorem sc_law : FnScope ["script", "height", "width", "stones", "cell", "handed", "found"] ["script"] (defScope s_law) := ⟨rfl, rfl, rfl, by decide +kernel, rfl, by decide +kernel, by decide +kernel⟩
structure Adr where
  FieldError : Addr
  BadView : Addr
  BadLaying : Addr
  View : Addr
  Game : Addr
structure Txt (K : PySem.W.Frag) (mg : Str → Option Value) (Z : Adr) : Prop where
  b_ValueError : mg "ValueError" = none
  b_all : mg "all" = none
  b_int : mg "int" = none
  b_isinstance : mg "isinstance" = none
  b_len : mg "len" = none
  b_list : mg "list" = none
  b_range : mg "range" = none
  b_sorted : mg "sorted" = none
  b_str : mg "str" = none
  g_MOST_ROWS : ∃ t, mg "MOST_ROWS" = some (.int 6 t)
  g_MOST_COLUMNS : ∃ t, mg "MOST_COLUMNS" = some (.int 6 t)
  g_CLOSED_SIGN : ∃ t, mg "CLOSED_SIGN" = some (.str "#" t)
  g_SIGNS : ∃ t, mg "SIGNS" = some (.str "#012345678" t)
  c_FieldError : mg "FieldError" = some (.ref Z.FieldError)
  x_FieldError : ErrCls K Z.FieldError
  c_BadView : mg "BadView" = some (.ref Z.BadView)
  x_BadView : ErrCls K Z.BadView
  c_BadLaying : mg "BadLaying" = some (.ref Z.BadLaying)
  x_BadLaying : ErrCls K Z.BadLaying
  c_View : mg "View" = some (.ref Z.View)
  cl_View : Cls K Z.View
  n_View_rows : NoAttr K Z.View "rows"
  n_View_height : NoAttr K Z.View "height"
  n_View_width : NoAttr K Z.View "width"
  c_Game : mg "Game" = some (.ref Z.Game)
  cl_Game : Cls K Z.Game
  n_Game_field : NoAttr K Z.Game "field"
  n_Game_hidden : NoAttr K Z.Game "hidden"
  n_Game_figures : NoAttr K Z.Game "figures"
  n_Game_lost : NoAttr K Z.Game "lost"
  q_bf : PySem.W.kitOne K (.ref Z.BadView) (.ref Z.FieldError) = some true
  q_bv : PySem.W.kitOne K (.ref Z.BadView) (.type "ValueError") = some true
  q_lf : PySem.W.kitOne K (.ref Z.BadLaying) (.ref Z.FieldError) = some true
  q_lv : PySem.W.kitOne K (.ref Z.BadLaying) (.type "ValueError") = some true
  q_lb : PySem.W.kitOne K (.ref Z.BadLaying) (.ref Z.BadView) = some false
  q_gg : PySem.W.kitOne K (.ref Z.Game) (.ref Z.Game) = some true
def spCell (K : PySem.W.Frag) : Sp := fun vs H Q _ => ∃ (a : Addr) (ns : List Int) (k : Int), vs = [.ref a, .int k] ∧ 0 ≤ k ∧ SqL K H a (ns.map V.int) ∧ ∀ r : Int, Q (.int r) H
def spMix : Sp := fun vs H Q _ => ∃ (c k m : Int), vs = [.int c, .int k, .int m] ∧ 0 < m ∧ ∀ (r : Int) (H' : Hp), 0 ≤ r → r < m → Same H H' → Q (.int r) H'
def spWhole : Sp := fun vs H Q _ => ∃ i : Int, vs = [.int i] ∧ Q (.bl true) H
def spNear (K : PySem.W.Frag) : Sp := fun vs H Q _ => ∃ (h w : Int) (v : V) (x : Cell), vs = [.int h, .int w, v] ∧ Den K H v (cellD x) ∧ ∀ p H', Fr K H H' p ((lnear h w x).map cellD) → Q (.ref p) H'
def spSizes (K : PySem.W.Frag) : Sp := fun vs H Q _ => ∃ (p : Addr) (zs : List Str) (w : Nat), vs = [.ref p] ∧ SqL K H p (zs.map V.str) ∧ Rect zs w ∧ ∀ t H', Same H H' → SqT K H' t [.int zs.length, .int w] → Q (.ref t) H'
def spCells (K : PySem.W.Frag) : Sp := fun vs H Q _ => ∃ (p : Addr) (zs : List Str) (w : Nat) (sg : Str), vs = [.ref p, .str sg] ∧ SqL K H p (zs.map V.str) ∧ Rect zs w ∧ ∀ q H', Fr K H H' q ((cellsL zs w sg).map cellD) → Q (.ref q) H'
section
variable {P : Program} {w : World} {K : PySem.W.Frag} {mg : Str → Option Value} {base : Heap} {Z : Adr}
theorem ok_cell {f : Addr} {fd : FuncData} (F : Fun K "_law_cell_at" "_law_cell_at" s__law_cell_at f fd) (T : Txt K mg Z) : FnOk P w K mg base (CXE P w) 1 f fd ["script", "k"] (spCell K) := by
  refine F.rok sc__law_cell_at (fun vs H Q E h => ?_) (fun cdv A outer s H vs Q E hr h => ?_)
  · obtain ⟨a, ns, k, rfl, _⟩ := h; rfl
  · obtain ⟨a, ns, k, rfl, h0, hS, hq⟩ := h
    refine ⟨_, (rss_cons (rs_if (rt_cmp op_lt (rv 1) (r_callB (k_len (K := K)) rfl T.b_len bt_len (ra_cons (rv 0) ra_nil)) (nomark _)) (rss_one (rs_ret (r_ix (k_ix (K := K)) (rv 0) (rv 1)))) rss_nil) (rss_one (rs_ret r_int))), ?_⟩
    refine ⟨_, rfl, _, rfl, .inl ⟨a, _, rfl, .inl hS, _, _, rfl, rfl, _, rfl, ?_⟩⟩
    refine ite2 (fun hk => ?_) (fun _ => ?_)
    · have hk' : k < ns.length := by have := of_decide_eq_true hk; simp only [List.length_map] at this; exact this
      obtain ⟨v, e⟩ := atI_int h0 hk'
      exact ⟨_, rfl, _, rfl, .inl ⟨a, _, _, _, rfl, rfl, hS, e, hq _⟩⟩
    · exact hq 0
theorem ok_mix {f : Addr} {fd : FuncData} (F : Fun K "_law_mix" "_law_mix" s__law_mix f fd) (T : Txt K mg Z) : FnOk P w K mg base (CXE P w) 1 f fd ["cell", "k", "many"] spMix := by
  refine F.rok sc__law_mix (fun vs H Q E h => ?_) (fun cdv A outer s H vs Q E hr h => ?_)
  · obtain ⟨c, k, m, rfl, _⟩ := h; rfl
  · obtain ⟨c, k, m, rfl, hm, hq⟩ := h
    refine ⟨_, (rss_cons (rs_set (i := 3) sc__law_mix.nd rfl (by first | exact Or.inl rfl | exact Or.inr rfl) (r_lst (ra_cons r_int (ra_cons r_int (ra_cons r_int (ra_cons r_int (ra_cons r_int (ra_cons r_int (ra_cons r_int (ra_cons r_int (ra_cons r_int (ra_cons r_int (ra_cons r_int (ra_cons r_int (ra_cons r_int ra_nil))))))))))))))) (rss_cons (rs_set (i := 4) sc__law_mix.nd rfl (by first | exact Or.inl rfl | exact Or.inr rfl) (r_op op_addG (r_op op_addG (r_op op_mulG (r_op op_addG (r_op op_mod (rv 0) r_int) r_int) (r_ix (k_ix (K := K)) (rv 3) (r_op op_mod (rv 1) r_int))) (r_op op_mulG r_int (rv 1))) (r_op op_mulG r_int (r_op op_fdiv (rv 1) r_int)))) (rss_cons (rs_set (i := 4) sc__law_mix.nd rfl (by first | exact Or.inl rfl | exact Or.inr rfl) (r_op op_mod (rv 4) r_int)) (rss_one (rs_ret (r_op op_mod (r_op op_fdiv (r_op op_mod (r_op op_addG (r_op op_mulG (rv 4) (rv 4)) (r_op op_mulG r_int (rv 1))) r_int) r_int) (rv 2))))))), ?_⟩
    refine ⟨by decide, fun p hp => ?_⟩
    have b0 : 0 ≤ c % 2147483647 := Int.emod_nonneg _ (by decide)
    have b1 : c % 2147483647 < 2147483647 := Int.emod_lt_of_pos _ (by decide)
    obtain ⟨v, e⟩ := atI_int (ns := [48271, 69621, 16807, 39373, 30269, 40014, 40692, 50021, 61687, 71993, 83869, 95561, 30307]) (i := k % 13) (Int.emod_nonneg _ (by decide)) (Int.emod_lt_of_pos _ (by decide))
    refine ⟨_, rfl, _, _, rfl, rfl, (by show (0 : Int) < 2147483647; decide), _, rfl, _, rfl, _, _, rfl, rfl, (by show (0 : Int) < 13; decide), .inl ⟨p, _, _, _, rfl, rfl, .of upd_same, e, .inl ⟨by omega, by omega⟩, ?_⟩⟩
    refine ⟨_, rfl, .inl ⟨by omega, by omega⟩, ?_⟩
    refine ⟨_, rfl, _, _, rfl, rfl, ⟨by decide, by decide⟩, .inl ⟨by omega, by omega⟩, ?_⟩
    refine ⟨_, rfl, _, _, rfl, rfl, (by show (0 : Int) < 1000000007; decide), ?_⟩
    refine ⟨_, rfl, _, rfl, .inl ⟨by omega, by omega⟩, ?_⟩
    refine ⟨_, rfl, .inl ⟨by omega, by omega⟩, ?_⟩
    refine ⟨_, _, rfl, rfl, (by show (0 : Int) < 1000000007; decide), ?_⟩
    refine ⟨_, _, rfl, rfl, ⟨by decide, by decide⟩, ?_⟩
    refine ⟨_, rfl, _, _, rfl, rfl, hm, ?_⟩
    exact hq _ _ (Int.emod_nonneg _ (by omega)) (Int.emod_lt_of_pos _ hm) (Same.put hp)
end
end My

set_option Elab.async false
set_option linter.all false
set_option maxRecDepth 100000
set_option maxHeartbeats 1000000
namespace My
open PySem L2
def spFig (K : PySem.W.Frag) : Sp := fun vs H Q _ => ∃ (h w : Int) (p : Addr) (v : V) (st : List Cell) (x : Cell), vs = [.int h, .int w, .ref p, v] ∧ Den K H (.ref p) (.lst (st.map cellD)) ∧ Den K H v (cellD x) ∧ ∀ H', Same H H' → Q (.int (figN h w st x)) H'
def spField (K : PySem.W.Frag) : Sp := fun vs H Q _ => ∃ (a : Addr) (ns : List Int) (m : Int), vs = [.ref a, .int m] ∧ SqL K H a (ns.map V.int) ∧ 1 ≤ m ∧ m ≤ 6 ∧ ∀ (t p : Addr) (H' : Hp) (h w : Nat) (st : List Cell), Same H H' → H p = none → SqT K H' t [.int h, .int w, .ref p] → Ls K H' p (st.map cellD) →
  1 ≤ h → (h : Int) ≤ m → 1 ≤ w → (w : Int) ≤ m → st.Sublist (fieldL h w) → Q (.ref t) H'
section
variable {P : Program} {w : World} {K : PySem.W.Frag} {mg : Str → Option Value} {base : Heap} {Z : Adr}
end
end My

set_option Elab.async false
set_option linter.all false
set_option maxRecDepth 100000
set_option maxHeartbeats 1000000
namespace My
open PySem L2
section
variable {P : Program} {w : World} {K : PySem.W.Frag} {mg : Str → Option Value} {base : Heap} {Z : Adr}
theorem ok_field {f : Addr} {fd : FuncData} (F : Fun K "_law_field_by" "_law_field_by" s__law_field_by f fd) (T : Txt K mg Z) (D__law_cell_at : Df P w K mg base 1 "_law_cell_at" ["script", "k"] (spCell K)) (D__law_mix : Df P w K mg base 1 "_law_mix" ["cell", "k", "many"] spMix) :
    FnOk P w K mg base (CXE P w) 2 f fd ["script", "most"] (spField K) := by
  refine F.rok sc__law_field_by (fun vs H Q E h => ?_) (fun cdv A outer s H vs Q E hr h => ?_)
  · obtain ⟨a, ns, m, rfl, _⟩ := h; rfl
  · obtain ⟨a, ns, m, rfl, hS, m1, m6, hq⟩ := h
    have hu := hu60 hr
    refine ⟨_, (rss_cons (rs_set (i := 2) sc__law_field_by.nd rfl (by first | exact Or.inl rfl | exact Or.inr rfl) (r_def D__law_cell_at hr rfl passE (ra_cons (rv 0) (ra_cons r_int ra_nil)))) (rss_cons (rs_par (i := 3) (j := 4) rfl sc__law_field_by.nd rfl rfl (by decide) rfl rfl (ra_cons (r_op op_addG r_int (r_def D__law_mix hr rfl passE (ra_cons (rv 2) (ra_cons r_int (ra_cons (rv 1) ra_nil))))) (ra_cons (r_op op_addG r_int (r_def D__law_mix hr rfl passE (ra_cons (rv 2) (ra_cons r_int (ra_cons (rv 1) ra_nil))))) ra_nil)) rfl) (rss_cons (rs_set (i := 5) sc__law_field_by.nd rfl (by first | exact Or.inl rfl | exact Or.inr rfl) (r_ix (k_ix (K := K)) (r_lst (ra_cons r_int (ra_cons r_int (ra_cons r_int ra_nil)))) (r_def D__law_mix hr rfl passE (ra_cons (rv 2) (ra_cons r_int (ra_cons r_int ra_nil)))))) (rss_cons (rs_set (i := 6) sc__law_field_by.nd rfl (by first | exact Or.inl rfl | exact Or.inr rfl) (r_lst ra_nil)) (rss_cons (rs_for PassesOwn.never rfl (ri_range1 rfl T.b_range (ra_cons (rv 3) ra_nil)) (rg_name (i := 7) sc__law_field_by.nd rfl (by first | exact Or.inl rfl | exact Or.inr rfl)) (rss_one (rs_for PassesOwn.never rfl (ri_range1 rfl T.b_range (ra_cons (rv 4) ra_nil)) (rg_name (i := 8) sc__law_field_by.nd rfl (by first | exact Or.inl rfl | exact Or.inr rfl)) (rss_one (rs_if (rt_cmp (op_eq.or (k_eqD (K := K) hu)) (r_def D__law_mix hr rfl passE (ra_cons (r_def D__law_cell_at hr rfl passE (ra_cons (rv 0) (ra_cons (r_op op_addG r_int (rv 7)) ra_nil))) (ra_cons (rv 8) (ra_cons (rv 5) ra_nil)))) r_int (nomark _)) (rss_one (rs_expr (kr_bm (K := K) PySem.F.plainAttrs_list PySem.F.slot_list_append PySem.F.type_list_append mt_append (rv 6) (ra_cons (r_tup (ra_cons (rv 7) (ra_cons (rv 8) ra_nil))) ra_nil)))) rss_nil))))) (rss_one (rs_ret (r_tup (ra_cons (rv 3) (ra_cons (rv 4) (ra_cons (rv 6) ra_nil))))))))))), ?_⟩
    -- cell
    refine seq_mid (fun σ H1 => ∃ c : Int, Same H H1 ∧ σ = [some (.ref a), some (.int m), some (.int c), none, none, none, none, none, none]) (fun R hR => ?_) ?_
    · exact ⟨_, rfl, a, ns, 0, rfl, by decide, hS, fun r => hR _ _ ⟨r, Same.refl _, rfl⟩⟩
    rintro σ H1 ⟨c, s1, rfl⟩
    -- height, width
    refine seq_mid (fun σ H2 => ∃ h w : Nat, Same H H2 ∧ (1 ≤ h ∧ (h : Int) ≤ m) ∧ (1 ≤ w ∧ (w : Int) ≤ m) ∧ σ = [some (.ref a), some (.int m), some (.int c), some (.int h), some (.int w), none, none, none, none]) (fun R hR => ?_) ?_
    · refine ⟨_, rfl, _, rfl, _, 1, _, rfl, by omega, fun r1 H1 a1 b1 t1 => ?_⟩
      refine ⟨_, rfl, _, rfl, _, 2, _, rfl, by omega, fun r2 H2 a2 b2 t2 => ?_⟩
      refine ⟨_, _, rfl, hR _ _ ⟨(1 + r1).toNat, (1 + r2).toNat, s1.trans (t1.trans t2), by omega, by omega, ?_⟩⟩
      rw [Int.toNat_of_nonneg (by omega), Int.toNat_of_nonneg (by omega)]; rfl
    rintro σ H2 ⟨h, w, s2, bh, bw, rfl⟩
    -- thin
    refine seq_mid (fun σ H3 => ∃ t : Int, 0 < t ∧ Same H H3 ∧ σ = [some (.ref a), some (.int m), some (.int c), some (.int h), some (.int w), some (.int t), none, none, none]) (fun R hR => ?_) ?_
    · refine ⟨sz rfl, fun l hl => ?_⟩
      have t1 := Same.put (o := .lst [V.int 3, V.int 5, V.int 9]) hl
      refine ⟨_, rfl, _, 3, 3, rfl, by decide, fun r H3 a3 b3 t3 => ?_⟩
      obtain ⟨v, hv, e⟩ := atI_of (xs := ([3, 5, 9] : List Int).map V.int) (i := r) a3 (by simpa using b3)
      obtain ⟨n, hn, rfl⟩ := List.mem_map.mp hv
      refine .inl ⟨l, _, _, _, rfl, rfl, SqL.of (t3 _ _ upd_same), e, hR _ _ ⟨n, ?_, s2.trans (t1.trans t3), rfl⟩⟩
      exact (by decide : ∀ x ∈ ([3, 5, 9] : List Int), 0 < x) n hn
    rintro σ H3 ⟨t, ht, s3, rfl⟩
    -- stones = []
    refine seq_mid (fun σ H4 => ∃ p, H p = none ∧ Same H H4 ∧ H4 p = some (.lst []) ∧ σ = [some (.ref a), some (.int m), some (.int c), some (.int h), some (.int w), some (.int t), some (.ref p), none, none]) (fun R hR => ?_) ?_
    · exact ⟨by decide, fun p hp => hR _ _ ⟨p, s3.free hp, s3.and hp, upd_same, rfl⟩⟩
    rintro σ H4 ⟨p, np, s4, hp, rfl⟩
    have h6 : h ≤ 6 := by omega
    have w6 : w ≤ 6 := by omega
    -- the loops
    refine seq_mid (fun σ H5 => ∃ (st : List Cell) (v7 v8 : Option V), Same H H5 ∧ Ls K H5 p (st.map cellD) ∧ st.Sublist (fieldL h w) ∧ σ = [some (.ref a), some (.int m), some (.int c), some (.int h), some (.int w), some (.int t), some (.ref p), v7, v8]) (fun R hR => ?_) ?_
    · refine ⟨_, rfl, _, rfl, by omega, by omega, ?_⟩
      rw [Int.toNat_natCast]
      refine for_range (lo := 0) (n := h) (fun i σ H' => ∃ (st : List Cell) (v7 v8 : Option V), Same H H' ∧ Ls K H' p (st.map cellD) ∧ st.Sublist (fieldL i w) ∧ σ = [some (.ref a), some (.int m), some (.int c), some (.int h), some (.int w), some (.int t), some (.ref p), v7, v8])
        ⟨[], none, none, s4, ⟨[], hp, .nil⟩, List.nil_sublist _, rfl⟩ (fun i σ H' hi hh => ?_) (fun σ H' hh => hR _ _ hh)
      obtain ⟨st, v7, v8, g1, g2, g3, rfl⟩ := hh
      refine ⟨_, rfl, _, rfl, by omega, by omega, ?_⟩
      rw [Int.toNat_natCast]
      refine for_range (lo := 0) (n := w) (fun j σ H' => ∃ (st : List Cell) (v8 : Option V), Same H H' ∧ Ls K H' p (st.map cellD) ∧ st.Sublist (fieldL i w ++ (List.range j).map fun c : Nat => ((i : Int), (c : Int))) ∧ σ = [some (.ref a), some (.int m), some (.int c), some (.int h), some (.int w), some (.int t), some (.ref p), some (.int (0 + i)), v8])
        ⟨st, v8, g1, g2, by simpa using g3, rfl⟩ (fun j σ H' hj hh => ?_) (fun σ H' hh => ?_)
      · obtain ⟨st, v8, g1, g2, g3, rfl⟩ := hh
        have step : fieldL i w ++ (List.range (j + 1)).map (fun c : Nat => ((i : Int), (c : Int))) = (fieldL i w ++ (List.range j).map fun c : Nat => ((i : Int), (c : Int))) ++ [((i : Int), (j : Int))] := by
          rw [List.range_succ, List.map_append, ← List.append_assoc]; rfl
        have hl := g3.length_le
        rw [List.length_append, field_len, List.length_map, List.length_range] at hl
        have hl2 : i * w ≤ 6 * 6 := Nat.mul_le_mul (by omega) w6
        refine ⟨_, rfl, _, rfl, a, ns, _, rfl, by omega, g1.seq hS, fun r => ?_⟩
        refine ⟨_, rfl, _, rfl, _, _, _, rfl, ht, fun r2 H6 a6 b6 t6 => .inl ⟨rfl, _, rfl, ?_⟩⟩
        refine ite2 (fun _ => ?_) (fun _ => ?_)
        · refine ⟨_, rfl, .inl ⟨rfl, _, SqL.of (t6 _ _ g2.choose_spec.1)⟩, ?_⟩
          obtain ⟨xs, ex, D⟩ := g2
          refine ⟨_, rfl, _, rfl, sz rfl, fun u hu => ?_⟩
          have su := Same.put (o := .tup [V.int (0 + i), V.int (0 + j)]) hu
          refine ⟨p, xs, _, rfl, rfl, su _ _ (t6 _ _ ex), ltl (by rw [D.length, List.length_map]; omega), ?_⟩
          refine ⟨st ++ [((i : Int), (j : Int))], _, ?_, ⟨xs ++ [.ref u], upd_same, ?_⟩, ?_, rfl⟩
          · exact (SameBut.refl p _).put.of (g1.trans (t6.trans su)) np
          · rw [List.map_append]
            refine ((SameBut.refl p _).put.cells (su _ _ (t6 _ _ ex)) ((D.mono t6).mono su)).append (.cons ((SameBut.refl p _).put.cell (su _ _ (t6 _ _ ex)) ?_) .nil)
            rw [Int.zero_add, Int.zero_add]; exact den_cell
          · rw [step]; exact g3.append (List.Sublist.refl _)
        · refine ⟨st, _, g1.trans t6, g2.mono t6, ?_, rfl⟩
          rw [step]; exact g3.trans (List.sublist_append_left _ _)
      · obtain ⟨st, v8, g1, g2, g3, rfl⟩ := hh
        exact ⟨st, _, _, g1, g2, by rw [field_succ]; exact g3, rfl⟩
    rintro σ H5 ⟨st, v7, v8, g1, g2, g3, rfl⟩
    refine ⟨_, rfl, _, rfl, _, rfl, sz rfl, fun u hu => ?_⟩
    exact hq u p _ h w st (g1.and hu) np (SqT.of upd_same) (g2.mono (Same.put hu)) bh.1 bh.2 bw.1 bw.2 g3
end
end My

set_option Elab.async false
set_option linter.all false
set_option maxRecDepth 100000
set_option maxHeartbeats 1000000
namespace My
open PySem L2
def spShown (K : PySem.W.Frag) : Sp := fun vs H Q _ => ∃ (h w : Nat) (p q : Addr) (st kn : List Cell), vs = [.int h, .int w, .ref p, .ref q] ∧ h ≤ 6 ∧ w ≤ 6 ∧ Den K H (.ref p) (.lst (st.map cellD)) ∧ Den K H (.ref q) (.lst (kn.map cellD)) ∧
  ∀ r H', Same H H' → H r = none → H' r = some (.lst ((shownL h w st kn).map V.str)) → Q (.ref r) H'
def spOpened (K : PySem.W.Frag) : Sp := fun vs H Q _ => ∃ (h w : Nat) (p q : Addr) (v : V) (st kn : List Cell) (x : Cell), vs = [.int h, .int w, .ref p, .ref q, v] ∧ h ≤ 6 ∧ w ≤ 6 ∧ Den K H (.ref p) (.lst (st.map cellD)) ∧ Den K H (.ref q) (.lst (kn.map cellD)) ∧ Den K H v (cellD x) ∧ inF h w x ∧
  ∀ r H' (cs : List Cell), Fr K H H' r (cs.map cellD) → cs.Nodup → (∀ y, y ∈ cs ↔ Reach h w st kn x y) → Q (.ref r) H'
section
variable {P : Program} {w : World} {K : PySem.W.Frag} {mg : Str → Option Value} {base : Heap} {Z : Adr}
end
end My

set_option Elab.async false
set_option linter.all false
set_option maxRecDepth 100000
set_option maxHeartbeats 1000000
namespace My
open PySem L2
def spViewBy (K : PySem.W.Frag) : Sp := fun vs H Q _ => ∃ (a : Addr) (ns : List Int) (m k : Int), vs = [.ref a, .int m, .int k] ∧ SqL K H a (ns.map V.int) ∧ 1 ≤ m ∧ m ≤ 6 ∧ 1 ≤ k ∧ k ≤ 10 ∧
  ∀ (t r p : Addr) (H' : Hp) (h w : Nat) (st kn : List Cell), Same H H' → H r = none → H p = none → SqT K H' t [.ref r, .ref p] → H' r = some (.lst ((shownL h w st kn).map V.str)) → Ls K H' p (st.map cellD) →
    1 ≤ h → (h : Int) ≤ m → 1 ≤ w → (w : Int) ≤ m → st.Sublist (fieldL h w) → kn.Nodup → (∀ x ∈ kn, inF h w x ∧ x ∉ st) → Q (.ref t) H'
section
variable {P : Program} {w : World} {K : PySem.W.Frag} {mg : Str → Option Value} {base : Heap} {Z : Adr}
end
end My

set_option Elab.async false
set_option linter.all false
set_option maxRecDepth 100000
set_option maxHeartbeats 1000000
namespace My
open PySem L2
section
variable {P : Program} {w : World} {K : PySem.W.Frag} {mg : Str → Option Value} {base : Heap} {Z : Adr}
/-- the cells of the first n rows that are free of stones -/
def freeN (w : Nat) (st : List Cell) (n : Nat) : List Cell := (fieldL n w).filter fun y => !decide (y ∈ st)
theorem freeN_succ (w : Nat) (st : List Cell) (n : Nat) : freeN w st (n + 1) = freeN w st n ++ ((List.range w).filter fun c : Nat => !decide (((n : Int), (c : Int)) ∈ st)).map fun c : Nat => ((n : Int), (c : Int)) := by
  unfold freeN
  rw [field_succ, List.filter_append, List.filter_map]; rfl
theorem freeN_len (w : Nat) (st : List Cell) (n : Nat) : (freeN w st n).length ≤ n * w := by
  unfold freeN
  exact Nat.le_trans (List.length_filter_le _ _) (by rw [field_len]; exact Nat.le_refl _)
end
end My

set_option Elab.async false
set_option linter.all false
set_option maxRecDepth 100000
set_option maxHeartbeats 1000000
namespace My
open PySem L2
theorem cutV_to {zs : List Str} {r : Nat} (h : r ≤ zs.length) : cutV (zs.map V.str) none (some (r : Int)) = (zs.take r).map V.str := by
  unfold cutV
  rw [List.length_map, HT.sIx_none, HT.sIx_nat, Nat.min_eq_left h, List.drop_zero, Nat.sub_zero, List.map_take]
theorem cutV_from {zs : List Str} {r : Nat} (h : r ≤ zs.length) : cutV (zs.map V.str) (some (r : Int)) none = (zs.drop r).map V.str := by
  unfold cutV
  rw [List.length_map, HT.sIx_none, HT.sIx_nat, Nat.min_eq_left h, List.map_drop]
  exact List.take_of_length_le (by rw [List.length_drop, List.length_map]; exact Nat.le_refl _)
theorem cat_txt {H : Hp} {p l : Addr} {ws us : List Str} {Q : VK} (hp : H p = some (.lst (ws.map V.str))) (hl : H l = some (.lst (us.map V.str))) (hw : ws.length + us.length ≤ 10000) (hq : ∀ q, H q = none → Q (.ref q) (upd H q (.lst ((ws ++ us).map V.str)))) : rAddG (.ref p) (.ref l) H Q :=
  ⟨_, _, hp, hl, (by rw [List.length_map, List.length_map]; exact small hw), fun q h => by have := hq q h; rw [List.map_append] at this; exact this⟩
def spWrong (K : PySem.W.Frag) : Sp := fun vs H Q _ => ∃ (a p : Addr) (ns : List Int) (zs : List Str) (w : Nat), vs = [.ref a, .ref p] ∧ SqL K H a (ns.map V.int) ∧ H p = some (.lst (zs.map V.str)) ∧ Vw zs w ∧
  ∀ q zs' H', Same H H' → H' q = some (.lst (zs'.map V.str)) → Vw zs' w → zs'.length = zs.length → Q (.ref q) H'
def edgeL (zs : List Str) (w : Nat) : List Cell := (cellsL zs w "#").filter fun x => decide (0 < ((lnear zs.length w x).filter fun y => !decide (y ∈ cellsL zs w "#")).length)
def spEdge (K : PySem.W.Frag) : Sp := fun vs H Q _ => ∃ (p : Addr) (zs : List Str) (w : Nat), vs = [.ref p] ∧ SqL K H p (zs.map V.str) ∧ Vw zs w ∧ ∀ q H', Fr K H H' q ((edgeL zs w).map cellD) → Q (.ref q) H'
section
variable {P : Program} {w : World} {K : PySem.W.Frag} {mg : Str → Option Value} {base : Heap} {Z : Adr}
end
end My

set_option Elab.async false
set_option linter.all false
set_option maxRecDepth 100000
set_option maxHeartbeats 1000000
namespace My
open PySem L2
theorem Dens.strs' {K : PySem.W.Frag} {H : Hp} {α : Type} {g : α → Str} : ∀ xs : List α, Dens K H (xs.map (V.str ∘ g)) (xs.map fun x => Dt.str (g x))
  | [] => .nil
  | x :: xs => .cons (.str _) (Dens.strs' xs)
/-- all over the signs of a text -/
theorem signs_all {K : PySem.W.Frag} {H : Hp} {z : Str} {σ : L2.St} {Q : VK} {te : TE} (hz : z.length ≤ sizeLine)
    (ht : ∀ (c : Nat) (H' : Hp), ∀ G : VK, G (.bl (inS "#012345678" c)) H' → te (some (.str ⟨#[c]⟩) :: σ) H' G)
    (hq : ∀ H', Same H H' → Q (.bl (z.cps.toList.all (inS "#012345678"))) H') :
    ∃ W : Nat → Nat → List V → Hp → Prop, (∃ m, W 0 m [] H) ∧ CompW (Its z) tYes te σ (fun ys H2 => ∀ p, H2 p = none → ∃ (q : Addr) (bs : List Bool), [V.ref p] = [.ref q] ∧ SqL K (upd H2 p (.lst ys)) q (bs.map V.bl) ∧ Q (.bl (bs.all id)) (upd H2 p (.lst ys))) W := by
  refine comp_map (K := K) (xs := z.cps.toList) (enc := fun c => Dt.str ⟨#[c]⟩) (over_str z) (by rw [List.map_map]; exact Dens.strs' _) (by rw [Array.length_toList]; exact hz) (fun c => Dt.bl (inS "#012345678" c)) (fun c _ v H' s D G hG => ?_) (fun ys H' s D p hp => ?_)
  · cases D
    exact ht c H' G (hG _ _ (Same.refl _) (.bl _))
  · have e : ys = (z.cps.toList.map (inS "#012345678")).map V.bl := by
      refine Dens.of_bls (K := K) (H := H') ?_
      rw [List.map_map]; exact D
    refine ⟨p, z.cps.toList.map (inS "#012345678"), rfl, SqL.of (by rw [upd_same, e]), ?_⟩
    rw [List.all_map]
    exact hq _ (s.and hp)
def spRow : Sp := fun vs H Q _ => ∃ (z : Str) (n : Int), vs = [.str z, .int n] ∧ z.length ≤ 1000 ∧ ∀ H', Same H H' → Q (.bl (rowB z n)) H'
/-- l <= n <= m as a value -/
theorem chain_leV {l n m : Int} {te : TE} {σ : L2.St} {H : Hp} {G : VK} (he : ∀ Q' : VK, Q' (.int m) H → te σ H Q') (hg : G (.bl (decide (l ≤ n ∧ n ≤ m))) H) :
    if decide (l ≤ n) = true then te σ H (fun w' H4 => rI0 (fun i j => .bl (decide (i ≤ j))) (.int n) w' H4 G) else G (.bl false) H := by
  refine ite2 (fun h1 => he _ ⟨_, _, rfl, rfl, ?_⟩) (fun h1 => ?_)
  · have h1' := of_decide_eq_true h1
    have e : decide (l ≤ n ∧ n ≤ m) = decide (n ≤ m) := by simp [h1']
    show G (.bl (decide (n ≤ m))) H
    rw [← e]; exact hg
  · have e : decide (l ≤ n ∧ n ≤ m) = false := decide_eq_false fun h => h1 (decide_eq_true h.1)
    rw [← e]; exact hg
def sizeB (m n : Int) : Bool := decide (1 ≤ m ∧ m ≤ 6) && decide (1 ≤ n ∧ n ≤ 6)
def spSize : Sp := fun vs H Q _ => ∃ (m n : Int), vs = [.int m, .int n] ∧ Q (.bl (sizeB m n)) H
def spView (K : PySem.W.Frag) : Sp := fun vs H Q _ => ∃ (p : Addr) (zs : List Str), vs = [.ref p] ∧ SqL K H p (zs.map V.str) ∧ zs.length ≤ 1000 ∧ (∀ z ∈ zs, z.length ≤ 1000) ∧ ∀ H', Same H H' → Q (.bl (viewB zs)) H'
theorem len_v {zs : List Str} : (((zs.map V.str).length : Nat) : Int) = (zs.length : Int) := by rw [List.length_map]
/-- all over the rows -/
theorem rows_all {K : PySem.W.Frag} {H : Hp} {a : Addr} {zs : List Str} {n : Int} {σ : L2.St} {Q : VK} {te : TE} (hS : SqL K H a (zs.map V.str)) (hz : zs.length ≤ 1000)
    (ht : ∀ z ∈ zs, ∀ (H' : Hp), Same H H' → ∀ G : VK, (∀ H'', Same H' H'' → G (.bl (rowB z n)) H'') → te (some (.str z) :: σ) H' G)
    (hq : ∀ H', Same H H' → Q (.bl (zs.all fun r => rowB r n)) H') :
    ∃ W : Nat → Nat → List V → Hp → Prop, (∃ m, W 0 m [] H) ∧ CompW (Itl K a) tYes te σ (fun ys H2 => ∀ p, H2 p = none → rAll K [V.ref p] (upd H2 p (.lst ys)) Q) W := by
  refine comp_map (K := K) (xs := zs) (enc := Dt.str) (over_list hS) (Dens.strs zs) (small (by omega)) (fun z => Dt.bl (rowB z n)) (fun z hz v H' s D G hG => ?_) (fun ys H' s D p hp => ?_)
  · cases D
    exact ht z hz H' s G fun H'' s'' => hG _ _ s'' (.bl _)
  · have e : ys = (zs.map fun z => rowB z n).map V.bl := by
      refine Dens.of_bls (K := K) (H := H') ?_
      rw [List.map_map]; exact D
    refine ⟨p, zs.map fun z => rowB z n, rfl, SqL.of (by rw [upd_same, e]), ?_⟩
    rw [List.all_map]
    exact hq _ (s.and hp)
section
variable {P : Program} {w : World} {K : PySem.W.Frag} {mg : Str → Option Value} {base : Heap} {Z : Adr}
theorem ok_row {f : Addr} {fd : FuncData} (F : Fun K "is_row" "is_row" s_is_row f fd) (T : Txt K mg Z) : FnOk P w K mg base (CXE P w) 1 f fd ["row", "width"] spRow := by
  refine F.rok sc_is_row (fun vs H Q E h => ?_) (fun cdv A outer s H vs Q E hr h => ?_)
  · obtain ⟨z, n, rfl, _⟩ := h; rfl
  · obtain ⟨z, n, rfl, hz, hq⟩ := h
    have hu := hu60 hr
    have hu' := hu61 hr
    have hz' : z.length ≤ sizeLine := small (by omega)
    refine ⟨_, (rss_one (rs_ret (r_and (r_cmp (op_eq.or (k_eqD (K := K) hu)) (r_callB (k_len (K := K)) rfl T.b_len bt_len (ra_cons (rv 0) ra_nil)) (rv 1) (nomark _)) (r_one (r_callB (k_all (K := K) rfl) rfl T.b_all bt_all (ra_cons (r_comp (by rfl) rfl (ri_str (rv 0)) (fun _ _ _ => rif_nil) (fun _ _ _ => (r_cmp (op_in_str.or (k_inD (K := K) hu')) (rv 0) (r_gstr T.g_SIGNS rfl) (by rfl)))) ra_nil)))))), ?_⟩
    refine ⟨_, rfl, .inr ⟨z, rfl, hz', _, rfl, .inl ⟨rfl, _, rfl, ?_⟩⟩⟩
    rw [dec_v]
    refine ite2 (fun h1 => ?_) (fun h1 => ?_)
    · refine ⟨_, rfl, z, rfl, signs_all (K := K) hz' (fun c H' G hG => ⟨_, rfl, .inl ⟨_, _, rfl, rfl, hG⟩⟩) fun H' s' => ?_⟩
      have := hq H' s'
      unfold rowB at this
      rw [h1, Bool.true_and] at this
      exact this
    · have := hq H (Same.refl _)
      unfold rowB at this
      rw [Bool.eq_false_iff.mpr h1, Bool.false_and] at this
      exact this
theorem ok_size {f : Addr} {fd : FuncData} (F : Fun K "is_size" "is_size" s_is_size f fd) (T : Txt K mg Z) : FnOk P w K mg base (CXE P w) 1 f fd ["height", "width"] spSize := by
  refine F.rok sc_is_size (fun vs H Q E h => ?_) (fun cdv A outer s H vs Q E hr h => ?_)
  · obtain ⟨m, n, rfl, _⟩ := h; rfl
  · obtain ⟨m, n, rfl, hq⟩ := h
    refine ⟨_, (rss_one (rs_ret (r_and (r_chain op_le op_le r_int (rv 0) (r_gint T.g_MOST_ROWS rfl)) (r_one (r_chain op_le op_le r_int (rv 1) (r_gint T.g_MOST_COLUMNS rfl)))))), ?_⟩
    refine ⟨_, rfl, _, _, rfl, rfl, _, rfl, ?_⟩
    refine chain_leV (m := 6) (fun _ q => q) ⟨_, rfl, ite_b (fun hb => ?_) (fun hb => ?_)⟩
    · unfold sizeB at hq
      rw [hb, Bool.true_and] at hq
      refine ⟨_, rfl, _, _, rfl, rfl, _, rfl, ?_⟩
      exact chain_leV (m := 6) (fun _ q => q) hq
    · unfold sizeB at hq
      rw [hb, Bool.false_and] at hq
      exact hq
theorem size_iff {m n : Int} : sizeB m n = true ↔ ((1 ≤ m ∧ m ≤ 6) ∧ (1 ≤ n ∧ n ≤ 6)) := by
  unfold sizeB
  rw [Bool.and_eq_true, decide_eq_true_iff, decide_eq_true_iff]
theorem ok_view {f : Addr} {fd : FuncData} (F : Fun K "is_view" "is_view" s_is_view f fd) (T : Txt K mg Z) (D_is_row : Df P w K mg base 1 "is_row" ["row", "width"] spRow) (D_is_size : Df P w K mg base 1 "is_size" ["height", "width"] spSize) : FnOk P w K mg base (CXE P w) 2 f fd ["rows"] (spView K) := by
  refine F.rok sc_is_view (fun vs H Q E h => ?_) (fun cdv A outer s H vs Q E hr h => ?_)
  · obtain ⟨p, zs, rfl, _⟩ := h; rfl
  · obtain ⟨p, zs, rfl, hS, hn, hz, hq⟩ := h
    have hu := hu60 hr
    refine ⟨_, (rss_cons (rs_if (rt_b (rb_or (rt_cmp (op_eq.or (k_eqD (K := K) hu)) (r_callB (k_len (K := K)) rfl T.b_len bt_len (ra_cons (rv 0) ra_nil)) r_int (nomark _)) (rb_or1 (rt_not (rt_val (r_def D_is_size hr rfl passE (ra_cons (r_callB (k_len (K := K)) rfl T.b_len bt_len (ra_cons (rv 0) ra_nil)) (ra_cons (r_callB (k_len (K := K)) rfl T.b_len bt_len (ra_cons (r_ix (k_ix (K := K)) (rv 0) r_int) ra_nil)) ra_nil)))))))) (rss_one (rs_ret r_bl)) rss_nil) (rss_one (rs_ret (r_callB (k_all (K := K) rfl) rfl T.b_all bt_all (ra_cons (r_comp (by rfl) rfl (kri_list (K := K) (rv 0)) (fun _ _ _ => rif_nil) (fun _ _ _ => (r_def D_is_row hr rfl passE (ra_cons (rv 0) (ra_cons (r_callB (k_len (K := K)) rfl T.b_len bt_len (ra_cons (r_ix (k_ix (K := K)) (rv 1) r_int) ra_nil)) ra_nil))))) ra_nil))))), ?_⟩
    refine ⟨_, rfl, .inl ⟨p, _, rfl, .inl hS, .inl ⟨rfl, _, rfl, ?_⟩⟩⟩
    rw [len_v, dec_v]
    refine ite_b (fun hb => ?_) (fun hb => ?_)
    · cases zs with
      | nil => exact hq H (Same.refl _)
      | cons z zs => have := of_decide_eq_true hb; simp only [List.length_cons] at this; omega
    cases zs with
    | nil => cases hb
    | cons z zs =>
      have z0 := hz z List.mem_cons_self
      refine ⟨_, rfl, .inl ⟨p, _, rfl, .inl hS, _, rfl, .inl ⟨p, _, _, _, rfl, rfl, hS, atI_zero, .inr ⟨z, rfl, small (by omega), ?_⟩⟩⟩⟩
      refine ⟨_, _, rfl, ?_⟩
      rw [len_v]
      refine ⟨_, rfl, ite_b (fun h1 => ?_) (fun h1 => ?_)⟩
      · have := hq H (Same.refl _)
        have h1 : ¬ sizeB ((z :: zs).length : Nat) z.length = true := by simpa using h1
        rw [size_iff] at h1
        by_cases h2 : (z :: zs).length ≤ 6
        · rw [viewB_wide (by simp only [List.length_cons] at h1 h2 ⊢; omega)] at this
          exact this
        · rw [viewB_long h2] at this
          exact this
      · have h1 : sizeB ((z :: zs).length : Nat) z.length = true := by simpa using h1
        rw [size_iff] at h1
        obtain ⟨⟨a1, a2⟩, a3, a4⟩ := h1
        refine ⟨_, rfl, p, rfl, ⟨_, hS⟩, rows_all hS hn (n := z.length) (fun r hr' H' s' G hG => ?_) fun H' s' => ?_⟩
        · refine ⟨_, rfl, _, rfl, .inl ⟨p, _, _, _, rfl, rfl, s'.seq hS, atI_zero, .inr ⟨z, rfl, small (by omega), ?_⟩⟩⟩
          exact ⟨r, _, rfl, hz r hr', hG⟩
        · rw [← viewB_cons (by omega) (by omega) (by omega)]
          exact hq H' s'
def spInit (K : PySem.W.Frag) (C B : Addr) : Sp := fun vs H Q E => ∃ (x dx p : Addr) (z : List Str), vs = [.ref x, .ref p] ∧ H x = some (.ins C dx []) ∧ SqL K H p (z.map V.str) ∧ z.length ≤ 1000 ∧ (∀ r ∈ z, r.length ≤ 1000) ∧
  (viewB z = false → ∀ H', Same H H' → E (.ref B) none H') ∧ (viewB z = true → ∀ H' (l : Addr) (z0 : Str) (zs : List Str), z = z0 :: zs → H l = none → l ≠ x → H' l = some (.lst (z.map V.str)) → H' x = some (.ins C dx (fView l z.length z0.length)) → (∀ b o, H b = some o → b ≠ x → H' b = some o) → Q .non H')
theorem sq_upd {K : PySem.W.Frag} {H : Hp} {p x C dx : Addr} {xs : List V} {fs : List (Str × V)} {o : HO} (h : SqL K H p xs) (hx : H x = some (.ins C dx fs)) : SqL K (upd H x o) p xs := by
  rcases h with (h | ⟨ob, h⟩) | h
  · exact .inl (.inl (by rw [upd_ne (ne_of h hx (by intro z; cases z))]; exact h))
  · exact .inl (.inr ⟨ob, by rw [upd_ne (ne_of h hx (by intro z; cases z))]; exact h⟩)
  · exact .inr h
theorem few2 {a b : Str} {u v : V} : (putF a v (putF b u [])).length < 1000 := by
  have h1 := length_putF a v (putF b u [])
  have h2 := length_putF b u []
  simp only [List.length_nil] at h2
  omega
theorem ok_init {f : Addr} {fd : FuncData} (F : Fun K "__init__" "View.__init__" s_View___init__ f fd) (T : Txt K mg Z) (D_is_view : Df P w K mg base 2 "is_view" ["rows"] (spView K)) : FnOk P w K mg base (CXE P w) 3 f fd ["self", "rows"] (spInit K Z.View Z.BadView) := by
  refine F.rokE sc_View___init__ (fun vs H Q E h => ?_) (fun cdv A outer s H vs Q E hr h => ?_)
  · obtain ⟨x, dx, p, z, rfl, _⟩ := h; rfl
  · obtain ⟨x, dx, p, z, rfl, hx, hS, hn, hz, hE, hq⟩ := h
    have hd := hd_of hr
    refine ⟨_, (rss_cons (rs_if (RT.nox (rt_not (rt_val (r_def D_is_view hr rfl passE (ra_cons (rv 1) ra_nil))))) (rss_one (rs_raise T.x_BadView rfl T.c_BadView hd (ra_cons r_str ra_nil))) rss_nil) (rss_cons (RS.nox (rs_fld (rv 0) (r_callTy (k_list (K := K)) rfl T.b_list bt_list (ra_cons (rv 1) ra_nil)))) (rss_cons (RS.nox (rs_fld (rv 0) (r_callB (k_len (K := K)) rfl T.b_len bt_len (ra_cons (rv 1) ra_nil)))) (rss_one (RS.nox (rs_fld (rv 0) (r_callB (k_len (K := K)) rfl T.b_len bt_len (ra_cons (r_ix (k_ix (K := K)) (rv 1) r_int) ra_nil)))))))), ?_⟩
    refine ⟨_, rfl, p, z, rfl, hS, hn, hz, fun H1 s1 => ⟨_, rfl, ?_⟩⟩
    cases hv : viewB z with
    | false => exact iteT ⟨by decide, hE hv H1 s1⟩
    | true =>
      refine iteF ?_
      cases z with
      | nil => exact absurd (show false = true from hv) (by decide)
      | cons z0 zs =>
        have z0' := hz z0 List.mem_cons_self
        refine ⟨_, rfl, p, _, rfl, .inl (s1.seq hS), fun l hl => ?_⟩
        have nlx : l ≠ x := (ne_of_none (s1 x _ hx) hl).symm
        have h1 : (upd H1 l (.lst ((z0 :: zs).map V.str))) x = some (.ins Z.View dx []) := by rw [upd_ne nlx.symm]; exact s1 x _ hx
        have S1 : SqL K (upd H1 l (.lst ((z0 :: zs).map V.str))) p ((z0 :: zs).map V.str) := (s1.and hl).seq hS
        refine ⟨_, rfl, x, Z.View, dx, _, rfl, h1, T.cl_View, T.n_View_rows, (by show 0 < 1000; decide), ?_⟩
        have S2 := sq_upd (o := .ins Z.View dx (putF "rows" (.ref l) [])) S1 h1
        refine ⟨_, rfl, .inl ⟨p, _, rfl, .inl S2, _, rfl, x, Z.View, dx, _, rfl, upd_same, T.cl_View, T.n_View_height, (by show 1 < 1000; decide), ?_⟩⟩
        have S3 := sq_upd (o := .ins Z.View dx (putF "height" (.int ((z0 :: zs).map V.str).length) (putF "rows" (.ref l) []))) S2 upd_same
        refine ⟨_, rfl, .inl ⟨p, _, _, _, rfl, rfl, S3, atI_zero, .inr ⟨z0, rfl, small (by omega), _, rfl, x, Z.View, dx, _, rfl, upd_same, T.cl_View, T.n_View_width, few2, ?_⟩⟩⟩
        refine hq hv _ l z0 zs rfl (s1.free hl) nlx ?_ ?_ (fun b o e hb => ?_)
        · rw [upd_ne nlx, upd_ne nlx, upd_ne nlx, upd_same]
        · rw [upd_same]; rw [List.length_map]; rfl
        · rw [upd_ne hb, upd_ne hb, upd_ne hb]
          exact (s1.and hl) b o e
end
end My

set_option Elab.async false
set_option linter.all false
set_option maxRecDepth 100000
set_option maxHeartbeats 1000000
namespace My
open PySem L2
def spHas (K : PySem.W.Frag) (C : Addr) : Sp := fun vs H Q _ => ∃ (x : Addr) (v : V) (zs : List Str) (w : Nat) (c : Cell), vs = [.ref x, v] ∧ ViewAt C H x zs w ∧ Den K H v (cellD c) ∧ Q (.bl (decide (inF zs.length w c))) H
def spIsClosed (K : PySem.W.Frag) (C : Addr) : Sp := fun vs H Q _ => ∃ (x : Addr) (v : V) (zs : List Str) (w : Nat) (c : Cell), vs = [.ref x, v] ∧ ViewAt C H x zs w ∧ Den K H v (cellD c) ∧ Q (.bl (closedB zs w c)) H
def spAllCells (K : PySem.W.Frag) (C : Addr) : Sp := fun vs H Q _ => ∃ (x : Addr) (zs : List Str) (w : Nat), vs = [.ref x] ∧ ViewAt C H x zs w ∧ ∀ q H', Fr K H H' q ((fieldL zs.length w).map cellD) → Q (.ref q) H'
def spPNear (K : PySem.W.Frag) (C NC : Addr) : Sp := fun vs H Q E => ∃ (x : Addr) (v : V) (zs : List Str) (w : Nat) (c : Cell), vs = [.ref x, v] ∧ ViewAt C H x zs w ∧ Den K H v (cellD c) ∧ (inF zs.length w c → ∀ q H', Fr K H H' q ((lnear zs.length w c).map cellD) → Q (.ref q) H') ∧ (¬ inF zs.length w c → ∀ H', Same H H' → E (.ref NC) none H')
section
variable {P : Program} {w : World} {K : PySem.W.Frag} {mg : Str → Option Value} {base : Heap} {Z : Adr}
theorem ok_has {f : Addr} {fd : FuncData} (F : Fun K "has_cell" "has_cell" s_has_cell f fd) (T : Txt K mg Z) : FnOk P w K mg base (CXE P w) 1 f fd ["view", "cell"] (spHas K Z.View) := by
  refine F.rok sc_has_cell (fun vs H Q E h => ?_) (fun cdv A outer s H vs Q E hr h => ?_)
  · obtain ⟨x, v, zs, w, c, rfl, _⟩ := h; rfl
  · obtain ⟨x, v, zs, w, c, rfl, vt, dv, hq⟩ := h
    obtain ⟨dx, l, hx, hl⟩ := vt.ob
    refine ⟨_, (rss_one (rs_ret (r_and (r_chain op_le op_lt r_int (r_ix (k_ix (K := K)) (rv 1) r_int) (kr_fld (K := K) (rv 0))) (r_one (r_chain op_le op_lt r_int (r_ix (k_ix (K := K)) (rv 1) r_int) (kr_fld (K := K) (rv 0))))))), ?_⟩
    refine ⟨_, rfl, rd_fst dv ⟨_, _, rfl, rfl, _, rfl, ?_⟩⟩
    refine chain_ltV (m := (zs.length : Int)) (fun Q' q => ⟨_, rfl, x, Z.View, dx, _, _, rfl, hx, T.cl_View, T.n_View_height, f_height _ _ _, q⟩) ⟨_, rfl, ?_⟩
    have fin : ∀ b : Bool, b = decide (inF zs.length w c) → Q (.bl b) H := fun b e => by rw [e]; exact hq
    refine ite_b (fun h1 => ?_) (fun h1 => fin _ (decide_eq_false fun z => by rw [decide_eq_true z.1] at h1; cases h1).symm)
    refine ⟨_, rfl, rd_snd dv ⟨_, _, rfl, rfl, _, rfl, ?_⟩⟩
    refine chain_ltV (m := (w : Int)) (fun Q' q => ⟨_, rfl, x, Z.View, dx, _, _, rfl, hx, T.cl_View, T.n_View_width, f_width _ _ _, q⟩) (fin _ ?_)
    have h1' := of_decide_eq_true h1
    by_cases h2 : 0 ≤ c.2 ∧ c.2 < (w : Int)
    · rw [decide_eq_true h2, decide_eq_true (show inF zs.length w c from ⟨h1', h2⟩)]
    · rw [decide_eq_false h2, decide_eq_false (fun z : inF zs.length w c => h2 z.2)]
theorem ok_isclosed {f : Addr} {fd : FuncData} (F : Fun K "is_closed" "is_closed" s_is_closed f fd) (T : Txt K mg Z) (D_has_cell : Df P w K mg base 1 "has_cell" ["view", "cell"] (spHas K Z.View)) : FnOk P w K mg base (CXE P w) 2 f fd ["view", "cell"] (spIsClosed K Z.View) := by
  refine F.rok sc_is_closed (fun vs H Q E h => ?_) (fun cdv A outer s H vs Q E hr h => ?_)
  · obtain ⟨x, v, zs, w, c, rfl, _⟩ := h; rfl
  · obtain ⟨x, v, zs, w, c, rfl, vt, dv, hq⟩ := h
    obtain ⟨dx, l, hx, hl⟩ := vt.ob
    have hu := hu60 hr
    refine ⟨_, (rss_one (rs_ret (r_and (r_def D_has_cell hr rfl passE (ra_cons (rv 0) (ra_cons (rv 1) ra_nil))) (r_one (r_cmp (op_eq.or (k_eqD (K := K) hu)) (r_ix (k_ix (K := K)) (r_ix (k_ix (K := K)) (kr_fld (K := K) (rv 0)) (r_ix (k_ix (K := K)) (rv 1) r_int)) (r_ix (k_ix (K := K)) (rv 1) r_int)) (r_gstr T.g_CLOSED_SIGN rfl) (nomark _)))))), ?_⟩
    refine ⟨_, rfl, _, rfl, x, v, zs, w, c, rfl, vt, dv, _, rfl, ?_⟩
    unfold closedB at hq
    refine ite_b (fun h1 => ?_) (fun h1 => ?_)
    · rw [h1, Bool.true_and] at hq
      obtain ⟨⟨a1, a2⟩, ⟨a3, a4⟩⟩ := of_decide_eq_true h1
      have e1 : c.1 = ((c.1.toNat : Nat) : Int) := by omega
      have e2 : c.2 = ((c.2.toNat : Nat) : Int) := by omega
      have i1 : c.1.toNat < zs.length := by omega
      refine ⟨_, rfl, x, Z.View, dx, _, _, rfl, hx, T.cl_View, T.n_View_rows, f_rows _ _ _, _, rfl, rd_fst dv ?_⟩
      rw [e1]
      refine rd_row (SqL.of hl) i1 ⟨_, rfl, rd_snd dv ?_⟩
      rw [e2]
      refine rd_sign (SqL.of hl) vt.vw.toRect i1 (by omega) (.inl ⟨rfl, ?_⟩)
      have es : decide (V.str ⟨#[codeAt zs (c.1.toNat, c.2.toNat)]⟩ = V.str "#") = decide (codeAt zs (c.1.toNat, c.2.toNat) = 35) := by
        congr 1
        apply propext
        have eh : ("#" : Str) = ⟨#[35]⟩ := by decide +kernel
        rw [eh]
        constructor
        · intro z; simpa using z
        · intro z; rw [z]
      rw [es]; exact hq
    · rw [h1, Bool.false_and] at hq
      exact hq
end
end My

set_option Elab.async false
set_option linter.all false
set_option maxRecDepth 100000
set_option maxHeartbeats 1000000
namespace My
open PySem L2
def spSome (K : PySem.W.Frag) (C : Addr) (g : List Str → Nat → Cell → List Cell) : Sp := fun vs H Q _ => ∃ (x : Addr) (v : V) (zs : List Str) (w : Nat) (c : Cell), vs = [.ref x, v] ∧ ViewAt C H x zs w ∧ Den K H v (cellD c) ∧ inF zs.length w c ∧ ∀ q H', Fr K H H' q ((g zs w c).map cellD) → Q (.ref q) H'
def spList (K : PySem.W.Frag) (C : Addr) (g : List Str → Nat → List Cell) : Sp := fun vs H Q _ => ∃ (x : Addr) (zs : List Str) (w : Nat), vs = [.ref x] ∧ ViewAt C H x zs w ∧ ∀ q H', Fr K H H' q ((g zs w).map cellD) → Q (.ref q) H'
def pedgeL (zs : List Str) (w : Nat) : List Cell := (closedL zs w).filter fun x => decide (0 < (openNear zs w x).length)
def pfarL (zs : List Str) (w : Nat) : List Cell := (closedL zs w).filter fun x => decide ((openNear zs w x).length = 0)
theorem closedL_len {zs : List Str} {w : Nat} (v : Vw zs w) : (closedL zs w).length ≤ 36 := by
  have h1 : (closedL zs w).length ≤ (fieldL zs.length w).length := List.length_filter_le _ _
  rw [field_len] at h1
  have h2 : zs.length * w ≤ 6 * 6 := Nat.mul_le_mul v.le v.w6
  omega
theorem openNear_len (zs : List Str) (w : Nat) (x : Cell) : (openNear zs w x).length ≤ 8 := Nat.le_trans (List.length_filter_le _ _) (lnear_len _ _ _)
theorem dec_ne (a b : Cell) : (!eqD (cellD a) (cellD b)) = !decide (a = b) := by rw [eqD_cell]
section
variable {P : Program} {w : World} {K : PySem.W.Frag} {mg : Str → Option Value} {base : Heap} {Z : Adr}
end
end My

set_option Elab.async false
set_option linter.all false
set_option maxRecDepth 100000
set_option maxHeartbeats 1000000
namespace My
open PySem L2
theorem deps_cells : ∀ cs : List Cell, depDs (cs.map cellD) ≤ 1
  | [] => Nat.le_of_ble_eq_true rfl
  | c :: cs => by
    show max (depD (cellD c)) (depDs (cs.map cellD)) ≤ 1
    exact Nat.max_le.mpr ⟨Nat.le_of_ble_eq_true rfl, deps_cells cs⟩
theorem dep_cells (cs : List Cell) : depD (.lst (cs.map cellD)) ≤ 50 := by
  show depDs (cs.map cellD) + 1 ≤ 50
  have := deps_cells cs
  omega
theorem dep_strs : ∀ ws : List Str, depDs (ws.map Dt.str) = 0
  | [] => rfl
  | w :: ws => by rw [List.map_cons]; unfold depDs; rw [dep_strs ws]; rfl
theorem dep_lst (ws : List Str) : depD (.lst (ws.map Dt.str)) ≤ 50 := by unfold depD; rw [dep_strs]; decide
theorem den_txt {K : PySem.W.Frag} {H : Hp} {p : Addr} {ws : List Str} (h : H p = some (.lst (ws.map V.str))) : Den K H (.ref p) (.lst (ws.map Dt.str)) := .lst (SqL.of h) (Dens.strs ws)
theorem lnear_asc (h w : Int) (x : Cell) : (lnear h w x).Pairwise cellLt := by
  unfold lnear
  refine List.Pairwise.filter _ (List.pairwise_map.mpr ?_)
  have : offs.Pairwise cellLt := by decide +kernel
  exact this.imp fun {a b} hab => by
    unfold cellLt at hab ⊢
    dsimp only at hab ⊢
    omega
theorem far_eq (zs : List Str) (w : Nat) : (cellsL zs w "#").filter (fun x => !decide (x ∈ edgeL zs w)) = pfarL zs w := by
  unfold pfarL
  rw [closed_cells]
  refine List.filter_congr fun x hx => ?_
  have e : edgeL zs w = pedgeL zs w := (edge_eq zs w).symm
  rw [e]
  have m : x ∈ pedgeL zs w ↔ 0 < (openNear zs w x).length := by
    unfold pedgeL
    rw [closed_cells, List.mem_filter, decide_eq_true_iff]
    exact ⟨fun z => z.2, fun z => ⟨hx, z⟩⟩
  by_cases h : (openNear zs w x).length = 0
  · rw [decide_eq_true h, decide_eq_false (fun z => by have := m.mp z; omega)]; rfl
  · rw [decide_eq_false h, decide_eq_true (m.mpr (by omega))]; rfl
theorem edge_p (zs : List Str) (w : Nat) : edgeL zs w = pedgeL zs w := (edge_eq zs w).symm
/-- all over cells, each held -/
theorem cells_all {K : PySem.W.Frag} {H : Hp} {a : Addr} {cs : List Cell} {xs : List V} {σ : L2.St} {Q : VK} {te : TE} (hS : SqL K H a xs) (D : Dens K H xs (cs.map cellD)) (hz : cs.length ≤ 1000)
    (ht : ∀ c ∈ cs, ∀ (v : V) (H' : Hp), Same H H' → Den K H' v (cellD c) → ∀ G : VK, (∀ H'', Same H' H'' → G (.bl true) H'') → te (some v :: σ) H' G)
    (hq : ∀ H', Same H H' → Q (.bl true) H') :
    ∃ W : Nat → Nat → List V → Hp → Prop, (∃ m, W 0 m [] H) ∧ CompW (Itl K a) tYes te σ (fun ys H2 => ∀ p, H2 p = none → rAll K [V.ref p] (upd H2 p (.lst ys)) Q) W := by
  refine comp_map (K := K) (xs := cs) (enc := cellD) (over_list hS) D (small (by omega)) (fun _ => Dt.bl true) (fun c hc v H' s d G hG => ?_) (fun ys H' s D p hp => ?_)
  · exact ht c hc v H' s d G fun H'' s'' => hG _ _ s'' (.bl _)
  · have e : ys = (cs.map fun _ => true).map V.bl := by
      refine Dens.of_bls (K := K) (H := H') ?_
      rw [List.map_map]; exact D
    refine ⟨p, cs.map fun _ => true, rfl, SqL.of (by rw [upd_same, e]), ?_⟩
    have e2 : (cs.map fun _ => true).all id = true := by rw [List.all_map]; exact List.all_eq_true.mpr fun _ _ => rfl
    rw [e2]
    exact hq _ (s.and hp)
def spPlaces (K : PySem.W.Frag) : Sp := fun vs H Q _ => ∃ (p : Addr) (v : V) (cs : List Cell), vs = [.ref p, v] ∧ Ls K H p (cs.map cellD) ∧ Den K H v (.lst (cs.map cellD)) ∧ cs.length ≤ 1000 ∧ ∀ H', Same H H' → Q (.bl true) H'
def spMet (K : PySem.W.Frag) (C : Addr) : Sp := fun vs H Q _ => ∃ (x : Addr) (v : V) (zs : List Str) (w : Nat) (c : Cell), vs = [.ref x, v] ∧ ViewAt C H x zs w ∧ Den K H v (cellD c) ∧
  (inF zs.length w c → ∀ q H', Fr K H H' q ((lnear zs.length w c).map cellD) → Q (.ref q) H') ∧ (¬ inF zs.length w c → ∀ H', Same H H' → Q (.bl true) H')
section
variable {P : Program} {w : World} {K : PySem.W.Frag} {mg : Str → Option Value} {base : Heap} {Z : Adr}
end
end My

set_option Elab.async false
set_option linter.all false
set_option maxRecDepth 100000
set_option maxHeartbeats 1000000
namespace My
open PySem L2
theorem dens_mem {K : PySem.W.Frag} {H : Hp} {xs : List V} {cs : List Cell} {v : V} (D : Dens K H xs (cs.map cellD)) (h : v ∈ xs) : ∃ c ∈ cs, Den K H v (cellD c) := by
  obtain ⟨i, hi⟩ := List.mem_iff_getElem?.mp h
  obtain ⟨d, ed, dd⟩ := D.get hi
  rw [List.getElem?_map] at ed
  obtain ⟨c, ec, rfl⟩ := Option.map_eq_some_iff.mp ed
  exact ⟨c, List.mem_of_getElem? ec, dd⟩
theorem cut_tail (a : V) (xs : List V) : cutV (a :: xs) (some 1) none = xs := by
  unfold cutV
  rw [HT.sIx_none]
  have e : HT.sIx (a :: xs).length 0 (some 1) = min 1 (a :: xs).length := HT.sIx_nat ..
  rw [e, List.length_cons, show min 1 (xs.length + 1) = 1 by omega]
  exact List.take_of_length_le (by simp)
theorem cut_head (a : V) (xs : List V) : cutV (a :: xs) none (some 1) = [a] := by
  unfold cutV
  rw [HT.sIx_none]
  have e : HT.sIx (a :: xs).length (a :: xs).length (some 1) = min 1 (a :: xs).length := HT.sIx_nat ..
  rw [e, List.length_cons, show min 1 (xs.length + 1) = 1 by omega]
  rfl
structure Lay (zs : List Str) (w : Nat) (cs : List Cell) : Prop where
  asc : cs.Pairwise cellLt
  cl : ∀ c ∈ cs, closedB zs w c = true
/-- sorted(laying + [one]) -/
theorem rd_sort_one {K : PySem.W.Frag} {H : Hp} {l : Addr} {cs : List Cell} {u : V} {y : Cell} {Q : VK} (hl : Ls K H l (cs.map cellD)) (du : Den K H u (cellD y)) (hz : cs.length ≤ 40)
    (hq : ∀ q H' ds, Same H H' → Ls K H' q (ds.map cellD) → ds.Perm (cs ++ [y]) → Asc ds → Q (.ref q) H') :
    ∀ p, H p = none → rAddG (.ref l) (.ref p) (upd H p (.lst [u])) fun v H' => rSortC K [v] H' Q := by
  intro p hp
  have s1 := Same.put (o := .lst [u]) hp
  have l1 : Ls K (upd H p (.lst [u])) p ([y].map cellD) := ⟨[u], upd_same, .cons (du.mono s1) .nil⟩
  refine rd_cat (K := K) (hl.mono s1) l1 (by rw [List.length_map, List.length_map, List.length_singleton]; omega) fun r H' fr => ?_
  obtain ⟨xs, ex, D⟩ := fr.ls
  rw [← List.map_append] at D
  refine ⟨r, xs, cs ++ [y], rfl, SqL.of ex, D, by rw [List.length_append, List.length_singleton]; omega, fun q ws ds hn pm D' pc as => ?_⟩
  exact hq q _ ds (s1.trans (fr.same.and hn)) (.new hn D') pc as
def spFigure (K : PySem.W.Frag) (C : Addr) : Sp := fun vs H Q _ => ∃ (x : Addr) (v : V) (zs : List Str) (w : Nat) (c : Cell), vs = [.ref x, v] ∧ ViewAt C H x zs w ∧ Den K H v (cellD c) ∧ inF zs.length w c ∧ closedB zs w c = false ∧ Q (.int (figOf zs c)) H
def spLaying (K : PySem.W.Frag) (C : Addr) : Sp := fun vs H Q _ => ∃ (x l : Addr) (zs : List Str) (w : Nat) (cs : List Cell), vs = [.ref x, .ref l] ∧ ViewAt C H x zs w ∧ Ls K H l (cs.map cellD) ∧ cs.length ≤ 1000 ∧ ∀ H', Same H H' → Q (.bl (layB zs w cs)) H'
def spStones (K : PySem.W.Frag) (C : Addr) : Sp := fun vs H Q _ => ∃ (x l : Addr) (v : V) (zs : List Str) (w : Nat) (c : Cell) (cs : List Cell), vs = [.ref x, v, .ref l] ∧ ViewAt C H x zs w ∧ Den K H v (cellD c) ∧ inF zs.length w c ∧ Ls K H l (cs.map cellD) ∧ ∀ H', Same H H' → Q (.int (stonesN zs.length w c cs)) H'
def spKeeps (K : PySem.W.Frag) (C BL : Addr) : Sp := fun vs H Q E => ∃ (x l : Addr) (zs : List Str) (w : Nat) (cs : List Cell), vs = [.ref x, .ref l] ∧ ViewAt C H x zs w ∧ Ls K H l (cs.map cellD) ∧ cs.length ≤ 1000 ∧
  (layB zs w cs = true → ∀ H', Same H H' → Q (.bl (keepB zs w cs)) H') ∧ (layB zs w cs = false → ∀ H', Same H H' → E (.ref BL) none H')
section
variable {P : Program} {w : World} {K : PySem.W.Frag} {mg : Str → Option Value} {base : Heap} {Z : Adr}
theorem ok_islaying {f : Addr} {fd : FuncData} (F : Fun K "is_laying" "is_laying" s_is_laying f fd) (T : Txt K mg Z) (D_is_closed : Df P w K mg base 2 "is_closed" ["view", "cell"] (spIsClosed K Z.View)) : FnOk P w K mg base (CXE P w) 3 f fd ["view", "laying"] (spLaying K Z.View) := by
  refine F.rok sc_is_laying (fun vs H Q E h => ?_) (fun cdv A outer s H vs Q E hr h => ?_)
  · obtain ⟨x, l, zs, w, cs, rfl, _⟩ := h; rfl
  · obtain ⟨x, l, zs, w, cs, rfl, vt, ⟨us, eu, D⟩, hc, hq⟩ := h
    have hu := hu60 hr
    have lu : us.length = cs.length := by rw [D.length, List.length_map]
    refine ⟨_, (rss_cons (rs_for PassesOwn.never rfl (ri_range2 rfl T.b_range (ra_cons r_int (ra_cons (r_callB (k_len (K := K)) rfl T.b_len bt_len (ra_cons (rv 1) ra_nil)) ra_nil))) (rg_name (i := 2) sc_is_laying.nd rfl (by first | exact Or.inl rfl | exact Or.inr rfl)) (rss_one (rs_if (rt_cmp (k_geC (K := K) hu) (r_ix (k_ix (K := K)) (rv 1) (r_op op_sub (rv 2) r_int)) (r_ix (k_ix (K := K)) (rv 1) (rv 2)) (nomark _)) (rss_one (rs_ret r_bl)) rss_nil))) (rss_one (rs_ret (r_callB (k_all (K := K) rfl) rfl T.b_all bt_all (ra_cons (r_comp (by rfl) rfl (kri_list (K := K) (rv 1)) (fun _ _ _ => rif_nil) (fun _ _ _ => (r_def D_is_closed hr rfl passE (ra_cons (rv 1) (ra_cons (rv 0) ra_nil))))) ra_nil))))), ?_⟩
    refine seq_mid (fun σ H1 => ∃ v2 : Option V, H1 = H ∧ ascB cs = true ∧ σ = [some (.ref x), some (.ref l), v2]) (fun R hR => ?_) ?_
    · refine ⟨_, rfl, .inl ⟨l, _, rfl, .inl (SqL.of eu), _, _, rfl, ?_⟩⟩
      refine ⟨⟨by omega, by omega, by omega, by omega⟩, ?_⟩
      refine for_range (lo := 1) (n := ((us.length : Int) - 1).toNat) (fun i σ H1 => ∃ v2 : Option V, H1 = H ∧ (∀ j, j < i → cltB (cs.getD j (0, 0)) (cs.getD (j + 1) (0, 0)) = true) ∧ σ = [some (.ref x), some (.ref l), v2]) ⟨none, rfl, fun j hj => absurd hj (Nat.not_lt_zero _), rfl⟩ (fun i σ H1 hi hh => ?_) (fun σ H1 hh => ?_)
      · obtain ⟨v2, rfl, g, rfl⟩ := hh
        have b1 : i < us.length := by omega
        have b2 : i + 1 < us.length := by omega
        have e1 : us[i]? = some us[i] := by simp [b1]
        have e2 : us[i + 1]? = some us[i + 1] := by simp [b2]
        obtain ⟨d1, f1, D1⟩ := D.get e1
        obtain ⟨d2, f2, D2⟩ := D.get e2
        rw [List.getElem?_map] at f1 f2
        obtain ⟨c1, g1, rfl⟩ := Option.map_eq_some_iff.mp f1
        obtain ⟨c2, g2, rfl⟩ := Option.map_eq_some_iff.mp f2
        have a1 : atI us (1 + (i : Int) - 1) = some us[i] := by
          have : (1 + (i : Int) - 1) = ((i : Nat) : Int) := by omega
          rw [this]; exact atI_nat e1
        have a2 : atI us (1 + (i : Int)) = some us[i + 1] := by
          have : (1 + (i : Int)) = ((i + 1 : Nat) : Int) := by omega
          rw [this]; exact atI_nat e2
        have k1 : cs.getD i (0, 0) = c1 := by rw [List.getD_eq_getElem?_getD, g1]; rfl
        have k2 : cs.getD (i + 1) (0, 0) = c2 := by rw [List.getD_eq_getElem?_getD, g2]; rfl
        refine ⟨_, rfl, _, rfl, _, _, rfl, rfl, .inl ⟨l, _, _, _, rfl, rfl, SqL.of eu, a1, ?_⟩⟩
        refine ⟨_, rfl, _, rfl, .inl ⟨l, _, _, _, rfl, rfl, SqL.of eu, a2, ?_⟩⟩
        refine ⟨c1, c2, D1, D2, _, rfl, ?_⟩
        refine ite_b (fun h1 => ?_) (fun h1 => ?_)
        · have : layB zs w cs = false := by
            unfold layB
            have : ascB cs = false := by
              cases e : ascB cs
              · rfl
              · unfold ascB at e
                rw [List.all_eq_true] at e
                have := e i (List.mem_range.mpr (by omega))
                rw [k1, k2] at this
                rw [this] at h1; cases h1
            rw [this, Bool.false_and]
          rw [← this]
          exact hq _ (Same.refl _)
        · refine ⟨_, rfl, fun j hj => ?_, rfl⟩
          by_cases hj' : j < i
          · exact g j hj'
          · have : j = i := by omega
            subst this
            rw [k1, k2]
            simpa using h1
      · obtain ⟨v2, rfl, g, rfl⟩ := hh
        refine hR _ _ ⟨v2, rfl, ?_, rfl⟩
        unfold ascB
        rw [List.all_eq_true]
        intro j hj
        rw [List.mem_range] at hj
        exact g j (by omega)
    rintro σ H1 ⟨v2, rfl, ha, rfl⟩
    have eq : layB zs w cs = cs.all (closedB zs w) := by unfold layB; rw [ha, Bool.true_and]
    rw [eq] at hq
    refine ⟨_, rfl, l, rfl, ⟨_, SqL.of eu⟩, comp_map (K := K) (xs := cs) (enc := cellD) (over_list (SqL.of eu)) D (small (by omega)) (fun c => Dt.bl (closedB zs w c)) (fun c hc' v H2 s2 d G hG => ?_) (fun ys H2 s2 D2 p hp => ?_)⟩
    · exact ⟨_, rfl, _, rfl, x, v, zs, w, c, rfl, vt.mono s2, d, hG _ _ (Same.refl _) (.bl _)⟩
    · have e : ys = (cs.map (closedB zs w)).map V.bl := by
        refine Dens.of_bls (K := K) (H := H2) ?_
        rw [List.map_map]; exact D2
      refine ⟨p, cs.map (closedB zs w), rfl, SqL.of (by rw [upd_same, e]), ?_⟩
      rw [List.all_map]
      exact hq _ (s2.and hp)
end
end My

set_option Elab.async false
set_option linter.all false
set_option maxRecDepth 100000
set_option maxHeartbeats 1000000
namespace My
open PySem L2
theorem flat_one (z : V) : ∀ k : Nat, (List.replicate k [z]).flatten = List.replicate k z
  | 0 => rfl
  | k + 1 => by rw [List.replicate_succ, List.flatten_cons, flat_one z k, List.replicate_succ]; rfl
/-- the rows of a field that is all closed -/
theorem blank_row (h w : Nat) (r : Int) (w1 : 1 ≤ w) (w6 : w ≤ 6) : rowN h w [] [] r w = repS "#" w := by
  have : ∀ k, k ≤ 6 → 1 ≤ k → rowN h w [] [] r k = repS "#" (k : Int) := by
    intro k hk h1
    have e : rowN h w [] [] r k = ⟨(List.replicate k 35).toArray⟩ := by
      unfold rowN
      have : ((List.range k).map fun c : Nat => sgnN h w [] [] (r, (c : Int))) = List.replicate k 35 := by
        rw [List.eq_replicate_iff]
        refine ⟨by rw [List.length_map, List.length_range], fun b hb => ?_⟩
        obtain ⟨c, _, rfl⟩ := List.mem_map.mp hb
        rfl
      rw [this]
    rw [e]
    have all := (by decide +kernel : ∀ k ∈ [1, 2, 3, 4, 5, 6], (⟨(List.replicate k 35).toArray⟩ : Str) = repS "#" ((k : Nat) : Int))
    refine all k ?_
    match k, h1, hk with
    | 1, _, _ => decide
    | 2, _, _ => decide
    | 3, _, _ => decide
    | 4, _, _ => decide
    | 5, _, _ => decide
    | 6, _, _ => decide
  exact this w w6 w1
theorem blank_eq (h w : Nat) (w1 : 1 ≤ w) (w6 : w ≤ 6) : (blankL h w).map V.str = List.replicate h (V.str (repS "#" w)) := by
  unfold blankL shownL
  rw [List.map_map, List.eq_replicate_iff]
  refine ⟨by rw [List.length_map, List.length_range], fun b hb => ?_⟩
  obtain ⟨r, _, rfl⟩ := List.mem_map.mp hb
  show V.str (rowN h w [] [] (r : Int) w) = _
  rw [blank_row h w r w1 w6]
theorem blank_len (h w : Nat) : (blankL h w).length = h := by
  unfold blankL shownL; rw [List.length_map, List.length_range]
theorem few3 {a b c : Str} {u v z : V} : (putF a v (putF b u (putF c z []))).length < 1000 := by
  have h1 := length_putF a v (putF b u (putF c z []))
  have h2 := length_putF b u (putF c z [])
  have h3 := length_putF c z []
  simp only [List.length_nil] at h3
  omega
def spGInit (K : PySem.W.Frag) (C CV BV BL : Addr) : Sp := fun vs H Q E => ∃ (x dx l : Addr) (h w : Int) (cs : List Cell), vs = [.ref x, .int h, .int w, .ref l] ∧ H x = some (.ins C dx []) ∧ Ls K H l (cs.map cellD) ∧ cs.length ≤ 1000 ∧
  (sizeB h w = false → ∀ H', Same H H' → E (.ref BV) none H') ∧
  (sizeB h w = true → layB (blankL h.toNat w.toNat) w.toNat cs = false → ∀ H', Same H H' → E (.ref BL) none H') ∧
  (sizeB h w = true → layB (blankL h.toNat w.toNat) w.toNat cs = true → ∀ H' (f hd d : Addr), H f = none → H hd = none → H d = none → hd ≠ d → f ≠ x → hd ≠ x → d ≠ x → GameAt K C CV H' x h.toNat w.toNat cs [] false f hd d → (∀ b o, H b = some o → b ≠ x → H' b = some o) → Q .non H')
theorem join_ones (g : Nat → Nat) : ∀ l : List Nat, PySem.Txt.join "" (l.map fun c : Nat => (⟨#[g c]⟩ : Str)) = ⟨(l.map g).toArray⟩ := by
  have go : ∀ (l : List Nat) (acc : Array Nat), ((l.map fun c : Nat => (⟨#[g c]⟩ : Str)).foldl (fun acc p => acc ++ ("" : Str).cps ++ p.cps) acc) = acc ++ (l.map g).toArray := by
    intro l
    induction l with
    | nil => intro acc; simp
    | cons a l ih =>
      intro acc
      rw [List.map_cons, List.foldl_cons, ih]
      have e : ("" : Str).cps = #[] := by decide +kernel
      rw [e]
      simp
  intro l
  cases l with
  | nil => rfl
  | cons a l =>
    show (⟨(l.map fun c : Nat => (⟨#[g c]⟩ : Str)).foldl (fun acc p => acc ++ ("" : Str).cps ++ p.cps) #[g a]⟩ : Str) = _
    rw [go]; simp
theorem join_row (h w : Int) (st kn : List Cell) (r : Int) (n : Nat) : PySem.Txt.join "" ((List.range n).map fun c : Nat => (⟨#[sgnN h w st kn (r, (c : Int))]⟩ : Str)) = rowN h w st kn r n := join_ones (fun c => sgnN h w st kn (r, (c : Int))) (List.range n)
def stateS (h w : Nat) (st kn : List Cell) (lost : Bool) : Str := if lost = true then "lost" else if kn.length + st.length = h * w then "won" else "on"
def spGState (K : PySem.W.Frag) (C CV : Addr) : Sp := fun vs H Q _ => ∃ (g : Addr) (h w : Nat) (st kn : List Cell) (lost : Bool) (f hd d : Addr), vs = [.ref g] ∧ GameAt K C CV H g h w st kn lost f hd d ∧ Q (.str (stateS h w st kn lost)) H
def spGView (K : PySem.W.Frag) (C CV : Addr) : Sp := fun vs H Q _ => ∃ (g : Addr) (h w : Nat) (st kn : List Cell) (lost : Bool) (f hd d : Addr), vs = [.ref g] ∧ GameAt K C CV H g h w st kn lost f hd d ∧
  ∀ x H', H x = none → Same H H' → ViewAt CV H' x (shownL h w st kn) w → Q (.ref x) H'
section
variable {P : Program} {w : World} {K : PySem.W.Frag} {mg : Str → Option Value} {base : Heap} {Z : Adr}
theorem ok_ginit {f : Addr} {fd : FuncData} (F : Fun K "__init__" "Game.__init__" s_Game___init__ f fd) (T : Txt K mg Z) (D_is_size : Df P w K mg base 1 "is_size" ["height", "width"] spSize) (M_View : Md P w K mg base 3 "View" ["self", "rows"] Z.View (spInit K Z.View Z.BadView)) (D_is_laying : Df P w K mg base 3 "is_laying" ["view", "laying"] (spLaying K Z.View)) :
    FnOk P w K mg base (CXE P w) 5 f fd ["self", "height", "width", "stones"] (spGInit K Z.Game Z.View Z.BadView Z.BadLaying) := by
  refine F.rokE sc_Game___init__ (fun vs H Q E h => ?_) (fun cdv A outer s H vs Q E hr h => ?_)
  · obtain ⟨x, dx, l, h, w, cs, rfl, _⟩ := h; rfl
  · obtain ⟨x, dx, l, h, w, cs, rfl, hx, hl, hc, e1, e2, hq⟩ := h
    have hd := hd_of hr
    have hu := hu60 hr
    refine ⟨_, (rss_cons (rs_if (RT.nox (rt_not (rt_val (r_def D_is_size hr rfl passE (ra_cons (rv 1) (ra_cons (rv 2) ra_nil)))))) (rss_one (rs_raise T.x_BadView rfl T.c_BadView hd (ra_cons r_str ra_nil))) rss_nil) (rss_cons (RS.nox (rs_set (i := 4) sc_Game___init__.nd rfl (by first | exact Or.inl rfl | exact Or.inr rfl) (r_make M_View hr rfl passE (ra_cons (r_op op_mulG (r_lst (ra_cons (r_op op_mulG (r_gstr T.g_CLOSED_SIGN rfl) (rv 2)) ra_nil)) (rv 1)) ra_nil)))) (rss_cons (rs_if (RT.nox (rt_not (rt_val (r_def D_is_laying hr rfl passE (ra_cons (rv 4) (ra_cons (rv 3) ra_nil)))))) (rss_one (rs_raise T.x_BadLaying rfl T.c_BadLaying hd (ra_cons r_str ra_nil))) rss_nil) (rss_cons (RS.nox (rs_fld (rv 0) (rv 4))) (rss_cons (RS.nox (rs_fld (rv 0) (r_callTy (k_list (K := K)) rfl T.b_list bt_list (ra_cons (rv 3) ra_nil)))) (rss_cons (RS.nox (rs_fld (rv 0) r_dnewT)) (rss_one (RS.nox (rs_fld (rv 0) r_bl))))))))), ?_⟩
    refine seq_mid (fun σ H1 => sizeB h w = true ∧ H1 = H ∧ σ = [some (.ref x), some (.int h), some (.int w), some (.ref l), none]) (fun R hR => ?_) ?_
    · refine ⟨_, rfl, _, rfl, _, _, rfl, _, rfl, ?_⟩
      refine ite_b (fun h1 => ⟨by decide, e1 (by simpa only [Bool.not_eq_true'] using h1) _ (Same.refl _)⟩) (fun h1 => hR _ _ ⟨by simpa only [Bool.not_eq_false'] using h1, rfl, rfl⟩)
    rintro σ H ⟨hsz, rfl, rfl⟩
    obtain ⟨⟨h1, h6⟩, w1, w6⟩ := size_iff.mp hsz
    obtain ⟨m, rfl⟩ : ∃ m : Nat, h = (m : Int) := ⟨h.toNat, by omega⟩
    obtain ⟨n, rfl⟩ : ∃ n : Nat, w = (n : Int) := ⟨w.toNat, by omega⟩
    rw [Int.toNat_natCast, Int.toNat_natCast] at e2 hq
    have vw : Vw (blankL m n) n := shown_vw (by omega) (by omega) (by omega) (by omega)
    have bl := blank_len m n
    refine seq_mid (fun σ H1 => ∃ y : Addr, H y = none ∧ Same H H1 ∧ ViewAt Z.View H1 y (blankL m n) n ∧ σ = [some (.ref x), some (.int m), some (.int n), some (.ref l), some (.ref y)]) (fun R hR => ?_) ?_
    · refine ⟨_, rfl, by decide, by omega, by omega, sz rfl, fun p hp => ?_⟩
      refine ⟨_, rfl, _, upd_same, by omega, by omega, small (by show 1 * _ ≤ 10000; omega), fun q hq' => ?_⟩
      have eL : (List.replicate ((m : Nat) : Int).toNat [V.str (repS "#" (n : Int))]).flatten = (blankL m n).map V.str := by rw [Int.toNat_natCast, flat_one, blank_eq m n (by omega) (by omega)]
      rw [eL]
      have sq := (Same.put (o := .lst [V.str (repS "#" (n : Int))]) hp).and (o := .lst ((blankL m n).map V.str)) hq'
      intro y dy ny ndy ney
      have n2 : (upd (upd (upd H p (.lst [V.str (repS "#" (n : Int))])) q (.lst ((blankL m n).map V.str))) dy (.own y)) y = none := by rw [upd_ne ney.symm]; exact ny
      have s6 := (Same.put (o := .own y) ndy).and (o := .ins Z.View dy []) n2
      obtain ⟨z0, zt, ez, hz0⟩ := vw.toRect.head
      refine ⟨y, dy, q, blankL m n, rfl, upd_same, SqL.of (s6 _ _ upd_same), by omega, fun r hr' => by have := vw.len r hr'; omega, fun hv => (by rw [vw.ok] at hv; cases hv), fun _ H' lr z0' zt' e nlr nlx hlr hx' keep => ⟨rfl, ?_⟩⟩
      have e0 : z0'.length = n := vw.len z0' (by rw [e]; exact List.mem_cons_self)
      have n1 : H y = none := sq.free ny
      refine hR _ _ ⟨y, n1, fun b o hb => keep b o (s6 _ _ (sq _ _ hb)) (ne_of_none hb n1), ⟨⟨dy, lr, ?_, hlr⟩, vw⟩, rfl⟩
      rw [e0] at hx'; exact hx'
    rintro σ H1 ⟨y, ny, s1, vt, rfl⟩
    refine seq_mid (fun σ H2 => layB (blankL m n) n cs = true ∧ Same H H2 ∧ ViewAt Z.View H2 y (blankL m n) n ∧ σ = [some (.ref x), some (.int m), some (.int n), some (.ref l), some (.ref y)]) (fun R hR => ?_) ?_
    · refine ⟨_, rfl, _, rfl, y, l, _, n, cs, rfl, vt, hl.mono s1, hc, fun H2 s2 => ⟨_, rfl, ?_⟩⟩
      refine ite_b (fun h1 => ⟨by decide, e2 hsz (by simpa only [Bool.not_eq_true'] using h1) _ (s1.trans s2)⟩) (fun h1 => hR _ _ ⟨by simpa only [Bool.not_eq_false'] using h1, s1.trans s2, vt.mono s2, rfl⟩)
    rintro σ H2 ⟨hlay, s2, vt2, rfl⟩
    obtain ⟨us, eu, Du⟩ := hl.mono s2
    have hx2 := s2 _ _ hx
    obtain ⟨dy, ly, hy2, hly2⟩ := vt2.ob
    have nyx : y ≠ x := (ne_of_none hx ny).symm
    have nlx : l ≠ x := ne_of eu hx2 (by intro z; cases z)
    have nlyx : ly ≠ x := ne_of hly2 hx2 (by intro z; cases z)
    -- self.field
    refine ⟨_, rfl, _, rfl, x, Z.Game, dx, _, rfl, hx2, T.cl_Game, T.n_Game_field, (by show 0 < 1000; decide), ?_⟩
    -- self.hidden
    have eu' : (upd H2 x (.ins Z.Game dx (putF "field" (.ref y) []))) l = some (.lst us) := by rw [upd_ne nlx]; exact eu
    refine ⟨_, rfl, l, _, rfl, .inl (SqL.of eu'), fun hd' nhd => ?_⟩
    have nhx : hd' ≠ x := fun z => by rw [z, upd_same] at nhd; cases nhd
    have nh2 : H2 hd' = none := by rwa [upd_ne nhx] at nhd
    refine ⟨_, rfl, x, Z.Game, dx, _, rfl, (by rw [upd_ne nhx.symm]; exact upd_same), T.cl_Game, T.n_Game_hidden, (by show 1 < 1000; decide), fun d nd => ?_⟩
    have ndx : d ≠ x := fun z => by rw [z, upd_same] at nd; cases nd
    have ndh : d ≠ hd' := fun z => by rw [z, upd_ne nhx, upd_same] at nd; cases nd
    have nd2 : H2 d = none := by rwa [upd_ne ndx, upd_ne ndh, upd_ne ndx] at nd
    refine ⟨_, rfl, x, Z.Game, dx, _, rfl, (by rw [upd_ne ndx.symm]; exact upd_same), T.cl_Game, T.n_Game_figures, few2, ?_⟩
    refine ⟨_, rfl, x, Z.Game, dx, _, rfl, upd_same, T.cl_Game, T.n_Game_lost, few3, ?_⟩
    have keep : ∀ b o, H2 b = some o → b ≠ x → (upd (upd (upd (upd (upd (upd H2 x (.ins Z.Game dx (putF "field" (.ref y) []))) hd' (.lst us)) x (.ins Z.Game dx (putF "hidden" (.ref hd') (putF "field" (.ref y) [])))) d (.dT [])) x (.ins Z.Game dx (putF "figures" (.ref d) (putF "hidden" (.ref hd') (putF "field" (.ref y) []))))) x (.ins Z.Game dx (fGame y hd' d false))) b = some o := fun b o e nb => by
      rw [upd_ne nb, upd_ne nb, upd_ne (ne_of_none e nd2), upd_ne nb, upd_ne (ne_of_none e nh2), upd_ne nb]; exact e
    have tp : Tups H2 (upd (upd (upd (upd (upd (upd H2 x (.ins Z.Game dx (putF "field" (.ref y) []))) hd' (.lst us)) x (.ins Z.Game dx (putF "hidden" (.ref hd') (putF "field" (.ref y) [])))) d (.dT [])) x (.ins Z.Game dx (putF "figures" (.ref d) (putF "hidden" (.ref hd') (putF "field" (.ref y) []))))) x (.ins Z.Game dx (fGame y hd' d false))) := fun b xs e => keep b _ e (ne_of e hx2 (by intro z; cases z))
    refine hq hsz hlay _ y hd' d ny (s2.free nh2) (s2.free nd2) ndh.symm nyx nhx ndx ⟨⟨dx, upd_same⟩, ⟨⟨dy, ly, keep _ _ hy2 nyx, keep _ _ hly2 nlyx⟩, vt2.vw⟩, ⟨us, ?_, tp.cells Du⟩, ?_⟩ (fun b o e nb => keep b o (s2 _ _ e) nb)
    · rw [upd_ne nhx, upd_ne nhx, upd_ne ndh.symm, upd_ne nhx, upd_same]
    · rw [upd_ne ndx, upd_ne ndx, upd_same]; rfl
theorem ok_gstate {f : Addr} {fd : FuncData} (F : Fun K "state" "Game.state" s_Game_state f fd) (T : Txt K mg Z) : FnOk P w K mg base (CXE P w) 1 f fd ["self"] (spGState K Z.Game Z.View) := by
  refine F.rok sc_Game_state (fun vs H Q E h => ?_) (fun cdv A outer s H vs Q E hr h => ?_)
  · obtain ⟨g, h, w, st, kn, lost, f, hd, d, rfl, _⟩ := h; rfl
  · obtain ⟨g, h, w, st, kn, lost, f, hd, d, rfl, G, hq⟩ := h
    have hu := hu60 hr
    obtain ⟨dx, hg⟩ := G.ob
    obtain ⟨dy, ly, hf, hly⟩ := G.fl.ob
    obtain ⟨us, eu, Du⟩ := G.hs
    have w6 := G.fl.vw.w6
    have h6 := G.fl.vw.le
    rw [blank_len] at h6 hf
    refine ⟨_, (rss_cons (rs_if (rt_val (kr_fld (K := K) (rv 0))) (rss_one (rs_ret r_str)) rss_nil) (rss_cons (rs_if (rt_cmp (op_eq.or (k_eqD (K := K) hu)) (r_op op_addG (r_callB (k_lenE (K := K)) rfl T.b_len bt_len (ra_cons (kr_fld (K := K) (rv 0)) ra_nil)) (r_callB (k_lenE (K := K)) rfl T.b_len bt_len (ra_cons (kr_fld (K := K) (rv 0)) ra_nil))) (r_op op_mulG (kr_fld (K := K) (kr_fld (K := K) (rv 0))) (kr_fld (K := K) (kr_fld (K := K) (rv 0)))) (nomark _)) (rss_one (rs_ret r_str)) rss_nil) (rss_one (rs_ret r_str)))), ?_⟩
    refine ⟨_, rfl, g, Z.Game, dx, _, _, rfl, hg, T.cl_Game, T.n_Game_lost, g_lost _ _ _ _, _, rfl, ?_⟩
    unfold stateS at hq
    refine ite_b (fun h1 => ?_) (fun h1 => ?_)
    · rw [if_pos h1] at hq; exact hq
    rw [if_neg (by rw [h1]; decide)] at hq
    refine ⟨_, rfl, g, Z.Game, dx, _, _, rfl, hg, T.cl_Game, T.n_Game_figures, g_figures _ _ _ _, .inr ⟨d, _, rfl, G.dc, ?_⟩⟩
    refine ⟨_, rfl, g, Z.Game, dx, _, _, rfl, hg, T.cl_Game, T.n_Game_hidden, g_hidden _ _ _ _, .inl (.inl ⟨hd, _, rfl, .inl (SqL.of eu), ?_⟩)⟩
    refine ⟨_, rfl, g, Z.Game, dx, _, _, rfl, hg, T.cl_Game, T.n_Game_field, g_field _ _ _ _, f, Z.View, dy, _, _, rfl, hf, T.cl_View, T.n_View_height, f_height _ _ _, ?_⟩
    refine ⟨_, rfl, g, Z.Game, dx, _, _, rfl, hg, T.cl_Game, T.n_Game_field, g_field _ _ _ _, f, Z.View, dy, _, _, rfl, hf, T.cl_View, T.n_View_width, f_width _ _ _, .inl ⟨by omega, by omega⟩, .inl ⟨rfl, _, rfl, ?_⟩⟩
    have l1 : (figsL h w st kn).length = kn.length := by unfold figsL; rw [List.length_map]
    have l2 : us.length = st.length := by rw [Du.length, List.length_map]
    rw [dec_v, l1, l2]
    have ed : decide (((kn.length : Nat) : Int) + ((st.length : Nat) : Int) = (h : Int) * (w : Int)) = decide (kn.length + st.length = h * w) := by
      rw [decide_eq_decide]; omega
    rw [ed]
    refine ite_b (fun h2 => ?_) (fun h2 => ?_)
    · rw [if_pos (of_decide_eq_true h2)] at hq; exact hq
    · rw [if_neg (of_decide_eq_false h2)] at hq; exact hq
theorem ok_gview {f : Addr} {fd : FuncData} (F : Fun K "view" "Game.view" s_Game_view f fd) (T : Txt K mg Z) (M_View : Md P w K mg base 3 "View" ["self", "rows"] Z.View (spInit K Z.View Z.BadView)) : FnOk P w K mg base (CXE P w) 5 f fd ["self"] (spGView K Z.Game Z.View) := by
  refine F.rok sc_Game_view (fun vs H Q E h => ?_) (fun cdv A outer s H vs Q E hr h => ?_)
  · obtain ⟨g, h, w, st, kn, lost, f, hd, d, rfl, _⟩ := h; rfl
  · obtain ⟨g, h, w, st, kn, lost, f, hd, d, rfl, G, hq⟩ := h
    have hu := hu60 hr
    have w1 := G.fl.vw.w1
    have w6 := G.fl.vw.w6
    have h6 := G.fl.vw.le
    have h1 := G.fl.vw.toRect.head
    rw [blank_len] at h6
    have h1 : 1 ≤ h := by
      obtain ⟨z, zt, e, _⟩ := h1
      have := congrArg List.length e
      rw [blank_len, List.length_cons] at this; omega
    refine ⟨_, (rss_cons (rs_set (i := 1) sc_Game_view.nd rfl (by first | exact Or.inl rfl | exact Or.inr rfl) (r_lst ra_nil)) (rss_cons (rs_for PassesOwn.never rfl (ri_range1 rfl T.b_range (ra_cons (kr_fld (K := K) (kr_fld (K := K) (rv 0))) ra_nil)) (rg_name (i := 2) sc_Game_view.nd rfl (by first | exact Or.inl rfl | exact Or.inr rfl)) (rss_cons (rs_comp (i := 3) sc_Game_view.nd rfl rfl (by rfl) rfl (ri_range1 rfl T.b_range (ra_cons (kr_fld (K := K) (kr_fld (K := K) (rv 0))) ra_nil)) (fun _ _ _ => rif_nil) (fun _ _ _ => (r_callTy call_strG rfl T.b_str bt_str (ra_cons (r_dget2 hu (kr_fld (K := K) (rv 1)) (r_tup (ra_cons (rv 3) (ra_cons (rv 0) ra_nil))) (r_gstr T.g_CLOSED_SIGN rfl) ⟨by rfl, by rfl, by rfl, by rfl⟩) ra_nil)))) (rss_one (rs_expr (kr_bm (K := K) PySem.F.plainAttrs_list PySem.F.slot_list_append PySem.F.type_list_append mt_append (rv 1) (ra_cons (kr_bm (K := K) PySem.F.plainAttrs_str PySem.F.slot_str_join PySem.F.type_str_join (k_join (K := K)) r_str (ra_cons (rv 3) ra_nil)) ra_nil)))))) (rss_one (rs_ret (r_make M_View hr rfl passE (ra_cons (rv 1) ra_nil)))))), ?_⟩
    refine seq_mid (fun σ H1 => ∃ p : Addr, H p = none ∧ Same H H1 ∧ H1 p = some (.lst []) ∧ σ = [some (.ref g), some (.ref p), none, none]) (fun R hR => ?_) ?_
    · exact ⟨by decide, fun p hp => hR _ _ ⟨p, hp, Same.put hp, upd_same, rfl⟩⟩
    rintro σ H1 ⟨p, np, s1, hp1, rfl⟩
    refine seq_mid (fun σ H2 => ∃ v2 v3 : Option V, Same H H2 ∧ H2 p = some (.lst ((shownL h w st kn).map V.str)) ∧ σ = [some (.ref g), some (.ref p), v2, v3]) (fun R hR => ?_) ?_
    · obtain ⟨dx, hg⟩ := (G.mono s1).ob
      obtain ⟨dy, ly, hf, hly⟩ := (G.mono s1).fl.ob
      rw [blank_len] at hf
      refine ⟨_, rfl, g, Z.Game, dx, _, _, rfl, hg, T.cl_Game, T.n_Game_field, g_field _ _ _ _, f, Z.View, dy, _, _, rfl, hf, T.cl_View, T.n_View_height, f_height _ _ _, _, rfl, by omega, by omega, ?_⟩
      rw [Int.toNat_natCast]
      refine for_range (lo := 0) (n := h) (fun i σ H2 => ∃ v2 v3 : Option V, Same H H2 ∧ H2 p = some (.lst (((List.range i).map fun r : Nat => rowN h w st kn (r : Int) w).map V.str)) ∧ σ = [some (.ref g), some (.ref p), v2, v3]) ⟨none, none, s1, hp1, rfl⟩ (fun i σ H2 hi hh => ?_) (fun σ H2 hh => ?_)
      · obtain ⟨v2, v3, g1, g2, rfl⟩ := hh
        have hi : i < h := hi
        refine seq_mid (fun σ H4 => ∃ q : Addr, Same H2 H4 ∧ H4 q = some (.lst (((List.range w).map fun c : Nat => (⟨#[sgnN h w st kn ((i : Int), (c : Int))]⟩ : Str)).map V.str)) ∧ σ = [some (.ref g), some (.ref p), some (.int (0 + i)), some (.ref q)]) (fun R' hR' => ?_) ?_
        · obtain ⟨dx, hg⟩ := (G.mono g1).ob
          obtain ⟨dy, ly, hf, hly⟩ := (G.mono g1).fl.ob
          rw [blank_len] at hf
          refine ⟨_, rfl, g, Z.Game, dx, _, _, rfl, hg, T.cl_Game, T.n_Game_field, g_field _ _ _ _, f, Z.View, dy, _, _, rfl, hf, T.cl_View, T.n_View_width, f_width _ _ _, _, rfl, by omega, by omega, ?_⟩
          rw [Int.toNat_natCast]
          refine comp_range (lo := 0) (n := w) (fun k ys H4 => Same H2 H4 ∧ ys = ((List.range k).map fun c : Nat => (⟨#[sgnN h w st kn ((i : Int), (c : Int))]⟩ : Str)).map V.str) (small (by omega)) (fun k ys H4 _ h => ?_) ⟨Same.refl _, rfl⟩ (fun k ys H4 hk h G' hG => ?_) (fun ys H4 h q hq' => ?_)
          · obtain ⟨_, rfl⟩ := h
            rw [List.length_map, List.length_map, List.length_range]; exact Nat.le_refl _
          · obtain ⟨t1, rfl⟩ := h
            have GG := G.mono (g1.trans t1)
            obtain ⟨dx, hg⟩ := GG.ob
            refine tyes ⟨_, rfl, g, Z.Game, dx, _, _, rfl, hg, T.cl_Game, T.n_Game_figures, g_figures _ _ _ _, d, rfl, .inr ⟨_, .inl GG.dc⟩, _, rfl, _, rfl, sz rfl, fun t ht => ?_⟩
            have st1 := Same.put (o := .tup [V.int (0 + (i : Int)), V.int (0 + (k : Int))]) ht
            have et : (upd H4 t (.tup [V.int (0 + (i : Int)), V.int (0 + (k : Int))])) t = some (.tup ((keyC ((i : Int), (k : Int))).map kV)) := by
              rw [upd_same, Int.zero_add, Int.zero_add]; rfl
            refine ⟨_, DGet.t (st1 _ _ GG.dc) et, ?_⟩
            rw [figs_val]
            have fin : ∀ H5, Same H4 H5 → G' (((List.range k).map fun c : Nat => (⟨#[sgnN h w st kn ((i : Int), (c : Int))]⟩ : Str)).map V.str ++ [.str ⟨#[sgnN h w st kn ((i : Int), (k : Int))]⟩]) H5 := fun H5 s5 => hG _ _ ⟨t1.trans s5, by rw [List.range_succ, List.map_append, List.map_append]; rfl⟩
            by_cases hm : ((i : Int), (k : Int)) ∈ kn
            · rw [if_pos hm]
              have f8 := figN_le h w st ((i : Int), (k : Int))
              have := fin _ st1
              have es : sgnN h w st kn ((i : Int), (k : Int)) = 48 + figN h w st ((i : Int), (k : Int)) := by unfold sgnN; rw [if_pos hm]
              rw [es, ← dig _ f8] at this
              exact .inl ⟨_, rfl, dig_log _ f8, this⟩
            · rw [if_neg hm]
              have := fin _ st1
              have es : sgnN h w st kn ((i : Int), (k : Int)) = 35 := by unfold sgnN; rw [if_neg hm]
              have eh : (⟨#[35]⟩ : Str) = "#" := by decide +kernel
              rw [es, eh] at this
              exact .inr ⟨_, rfl, this⟩
          · obtain ⟨t1, rfl⟩ := h
            exact hR' _ _ ⟨q, t1.and hq', upd_same, rfl⟩
        rintro σ H4 ⟨q, s4, hq4, rfl⟩
        have hp4 := s4 _ _ g2
        refine ⟨_, rfl, .inl ⟨rfl, _, SqL.of hp4⟩, rfl, _, rfl, ?_⟩
        refine ⟨"", q, _, rfl, rfl, SqL.of hq4, ?_, ?_⟩
        · have e0 : ("" : Str).length = 0 := by decide
          rw [e0]
          have : ∀ l : List Nat, ((l.map fun c : Nat => (⟨#[sgnN h w st kn ((i : Int), (c : Int))]⟩ : Str)).map (·.length)).sum = l.length := by
            intro l
            induction l with
            | nil => rfl
            | cons a l ih => rw [List.map_cons, List.map_cons, List.sum_cons, ih, List.length_cons]; show 1 + l.length = _; omega
          rw [this, List.length_map, List.length_range]; omega
        refine ⟨p, _, _, rfl, rfl, hp4, ltl (by rw [List.length_map, List.length_map, List.length_range]; omega), ?_⟩
        refine ⟨_, _, (SameBut.refl p _).put.of (g1.trans s4) np, ?_, rfl⟩
        rw [upd_same, join_row, List.range_succ, List.map_append, List.map_append]; rfl
      · obtain ⟨v2, v3, g1, g2, rfl⟩ := hh
        exact hR _ _ ⟨v2, v3, g1, g2, rfl⟩
    rintro σ H2 ⟨v2, v3, s2, hp2, rfl⟩
    have vw : Vw (shownL h w st kn) w := shown_vw h1 h6 w1 w6
    refine ⟨_, rfl, fun y dy ny ndy ney => ?_⟩
    have n2 : (upd H2 dy (.own y)) y = none := by rw [upd_ne ney.symm]; exact ny
    have s6 := (Same.put (o := .own y) ndy).and (o := .ins Z.View dy []) n2
    have ll : (shownL h w st kn).length = h := by unfold shownL; rw [List.length_map, List.length_range]
    refine ⟨y, dy, p, shownL h w st kn, rfl, upd_same, SqL.of (s6 _ _ hp2), by omega, fun r hr' => by have := vw.len r hr'; omega, fun hv => (by rw [vw.ok] at hv; cases hv), fun _ H' lr z0' zt' e nlr nlx hlr hx' keep => ⟨rfl, ?_⟩⟩
    have e0 : z0'.length = w := vw.len z0' (by rw [e]; exact List.mem_cons_self)
    have n1 : H y = none := s2.free ny
    refine hq y _ n1 (fun b o hb => keep b o (s6 _ _ (s2 _ _ hb)) (ne_of_none hb n1)) ⟨⟨dy, lr, ?_, hlr⟩, vw⟩
    rw [e0] at hx'; exact hx'
end
end My

set_option Elab.async false
set_option linter.all false
set_option maxRecDepth 100000
set_option maxHeartbeats 1000000
namespace My
open PySem L2
def BadG (h w : Int) (cs : List Cell) : Prop := sizeB h w = false ∨ (sizeB h w = true ∧ layB (blankL h.toNat w.toNat) w.toNat cs = false)
def spHurtG (K : PySem.W.Frag) : Sp := fun vs H Q _ => ∃ (l : Addr) (h w : Nat) (k : Int) (cs : List Cell), vs = [.int h, .int w, .ref l, .int k] ∧ (1 ≤ h ∧ h ≤ 6) ∧ (1 ≤ w ∧ w ≤ 6) ∧ Ls K H l (cs.map cellD) ∧ cs.Pairwise cellLt ∧ cs.length ≤ 36 ∧
  ∀ t q H' (h' w' : Int) ds, Same H H' → H' t = some (.tup [.int h', .int w', .ref q]) → Ls K H' q (ds.map cellD) → ds.length ≤ 100 → BadG h' w' ds → Q (.ref t) H'
theorem bad_size {h w : Int} {cs : List Cell} (z : ¬ ((1 ≤ h ∧ h ≤ 6) ∧ (1 ≤ w ∧ w ≤ 6))) : BadG h w cs := .inl (Bool.eq_false_iff.mpr fun e => z (size_iff.mp e))
theorem bad_lay {h w : Nat} {cs : List Cell} (h1 : 1 ≤ h ∧ h ≤ 6) (w1 : 1 ≤ w ∧ w ≤ 6) (z : ¬ (cs.Pairwise cellLt ∧ ∀ c ∈ cs, closedB (blankL h w) w c = true)) : BadG h w cs := .inr ⟨size_iff.mpr ⟨by omega, by omega⟩, by rw [Int.toNat_natCast, Int.toNat_natCast]; exact lay_not z⟩
def spMetG (K : PySem.W.Frag) (C CV : Addr) : Sp := fun vs H Q _ => ∃ (l : Addr) (h w : Int) (cs : List Cell), vs = [.int h, .int w, .ref l] ∧ Ls K H l (cs.map cellD) ∧ cs.length ≤ 1000 ∧
  (sizeB h w = false → ∀ t H', Same H H' → H' t = some (.lst [.int 1, .bl true]) → Q (.ref t) H') ∧
  (sizeB h w = true → layB (blankL h.toNat w.toNat) w.toNat cs = false → ∀ t H', Same H H' → H' t = some (.lst [.int 2, .bl true]) → Q (.ref t) H') ∧
  (sizeB h w = true → layB (blankL h.toNat w.toNat) w.toNat cs = true → ∀ x H' (f hd d : Addr), H x = none → H f = none → H hd = none → H d = none → hd ≠ d → f ≠ x → hd ≠ x → d ≠ x → Same H H' → GameAt K C CV H' x h.toNat w.toNat cs [] false f hd d → Q (.ref x) H')
section
variable {P : Program} {w : World} {K : PySem.W.Frag} {mg : Str → Option Value} {base : Heap} {Z : Adr}
theorem ok_hurtg {f : Addr} {fd : FuncData} (F : Fun K "_law_hurt" "_law_hurt" s__law_hurt f fd) (T : Txt K mg Z) : FnOk P w K mg base (CXE P w) 1 f fd ["height", "width", "stones", "cell"] (spHurtG K) := by
  refine F.rok sc__law_hurt (fun vs H Q E h => ?_) (fun cdv A outer s H vs Q E hr h => ?_)
  · obtain ⟨l, h, w, k, cs, rfl, _⟩ := h; rfl
  · obtain ⟨l, h, w, k, cs, rfl, h1, w1, hl, asc, hc, hq⟩ := h
    have hu := hu60 hr
    obtain ⟨us, eu, Du⟩ := id hl
    have lu : us.length = cs.length := by rw [Du.length, List.length_map]
    refine ⟨_, (rss_cons (rs_set (i := 4) sc__law_hurt.nd rfl (by first | exact Or.inl rfl | exact Or.inr rfl) (r_op op_mod (rv 3) r_int)) (rss_cons (rs_set (i := 5) sc__law_hurt.nd rfl (by first | exact Or.inl rfl | exact Or.inr rfl) (r_ix (k_ix (K := K)) (r_lst (ra_cons r_int (ra_cons r_int (ra_cons (r_un un_neg r_int) (ra_cons (r_op op_pow r_int r_int) ra_nil))))) (r_op op_mod (r_op op_fdiv (rv 3) r_int) r_int))) (rss_cons (rs_if (rt_cmp (op_eq.or (k_eqD (K := K) hu)) (rv 4) r_int (nomark _)) (rss_one (rs_ret (r_tup (ra_cons (rv 5) (ra_cons (rv 1) (ra_cons (rv 2) ra_nil)))))) rss_nil) (rss_cons (rs_if (rt_cmp (op_eq.or (k_eqD (K := K) hu)) (rv 4) r_int (nomark _)) (rss_one (rs_ret (r_tup (ra_cons (rv 0) (ra_cons (rv 5) (ra_cons (rv 2) ra_nil)))))) rss_nil) (rss_cons (rs_if (rt_b (rb_and (rt_cmp (op_eq.or (k_eqD (K := K) hu)) (rv 4) r_int (nomark _)) (rb_and1 (rt_cmp op_gt (r_callB (k_len (K := K)) rfl T.b_len bt_len (ra_cons (rv 2) ra_nil)) r_int (nomark _))))) (rss_one (rs_ret (r_tup (ra_cons (rv 0) (ra_cons (rv 1) (ra_cons (r_callB (k_sortC (K := K) hu) rfl T.b_sorted bt_sorted (ra_cons (r_op op_addG (rv 2) (r_lst (ra_cons (r_ix (k_ix (K := K)) (rv 2) (r_op op_mod (r_op op_fdiv (rv 3) r_int) (r_callB (k_len (K := K)) rfl T.b_len bt_len (ra_cons (rv 2) ra_nil)))) ra_nil))) ra_nil)) ra_nil)))))) rss_nil) (rss_cons (rs_if (rt_b (rb_and (rt_cmp (op_eq.or (k_eqD (K := K) hu)) (rv 4) r_int (nomark _)) (rb_and1 (rt_cmp op_gt (r_callB (k_len (K := K)) rfl T.b_len bt_len (ra_cons (rv 2) ra_nil)) r_int (nomark _))))) (rss_one (rs_ret (r_tup (ra_cons (rv 0) (ra_cons (rv 1) (ra_cons (r_op op_addG (r_slice (k_sl (K := K)) (rv 2) (ro_some r_int) ro_none) (r_slice (k_sl (K := K)) (rv 2) ro_none (ro_some r_int))) ra_nil)))))) rss_nil) (rss_cons (rs_set (i := 6) sc__law_hurt.nd rfl (by first | exact Or.inl rfl | exact Or.inr rfl) (r_ix (k_ix (K := K)) (r_lst (ra_cons (r_tup (ra_cons (rv 0) (ra_cons r_int ra_nil))) (ra_cons (r_tup (ra_cons r_int (ra_cons (rv 1) ra_nil))) (ra_cons (r_tup (ra_cons (r_un un_neg r_int) (ra_cons r_int ra_nil))) (ra_cons (r_tup (ra_cons r_int (ra_cons (r_un un_neg r_int) ra_nil))) ra_nil))))) (r_op op_mod (r_op op_fdiv (rv 3) r_int) r_int))) (rss_one (rs_ret (r_tup (ra_cons (rv 0) (ra_cons (rv 1) (ra_cons (r_callB (k_sortC (K := K) hu) rfl T.b_sorted bt_sorted (ra_cons (r_op op_addG (rv 2) (r_lst (ra_cons (rv 6) ra_nil))) ra_nil)) ra_nil))))))))))))), ?_⟩
    refine seq_mid (fun σ H1 => H1 = H ∧ σ = [some (.int h), some (.int w), some (.ref l), some (.int k), some (.int (k % 5)), none, none]) (fun R hR => ?_) ?_
    · exact ⟨_, rfl, _, _, rfl, rfl, (by show (0 : Int) < 5; decide), hR _ _ ⟨rfl, rfl⟩⟩
    rintro σ H ⟨rfl, rfl⟩
    refine seq_mid (fun σ H1 => ∃ o : Int, Same H H1 ∧ ¬ (1 ≤ o ∧ o ≤ 6) ∧ σ = [some (.int h), some (.int w), some (.ref l), some (.int k), some (.int (k % 5)), some (.int o), none]) (fun R hR => ?_) ?_
    · refine ⟨_, rfl, _, _, rfl, rfl, ⟨by decide, by decide, by decide⟩, sz rfl, fun p hp => ?_⟩
      obtain ⟨v, hv, e⟩ := atI_of (xs := [V.int 0, V.int 7, V.int (-1), V.int (10 ^ (9 : Int).toNat)]) (i := k / 5 % 4) (Int.emod_nonneg _ (by decide)) (Int.emod_lt_of_pos _ (by decide))
      refine ⟨_, rfl, _, _, rfl, rfl, ⟨by decide, by decide⟩, _, _, rfl, rfl, (by show (0 : Int) < 4; decide), .inl ⟨p, _, _, _, rfl, rfl, .of upd_same, e, ?_⟩⟩
      rcases List.mem_cons.mp hv with rfl | hv
      · exact hR _ _ ⟨_, Same.put hp, by omega, rfl⟩
      rcases List.mem_cons.mp hv with rfl | hv
      · exact hR _ _ ⟨_, Same.put hp, by omega, rfl⟩
      rcases List.mem_cons.mp hv with rfl | hv
      · exact hR _ _ ⟨_, Same.put hp, by omega, rfl⟩
      · rw [List.mem_singleton.mp hv]
        exact hR _ _ ⟨_, Same.put hp, by decide, rfl⟩
    rintro σ H1 ⟨o, s1, ho, rfl⟩
    have hl1 := hl.mono s1
    have eu1 := s1 _ _ eu
    have fin : ∀ (h' w' : Int) (q : Addr) (ds : List Cell) (H2 : Hp), Same H1 H2 → Ls K H2 q (ds.map cellD) → ds.length ≤ 100 → BadG h' w' ds → ∀ t, H2 t = none → Q (.ref t) (upd H2 t (.tup [.int h', .int w', .ref q])) := fun h' w' q ds H2 s2 lq ld bd t nt =>
      hq t q _ h' w' ds (s1.trans (s2.and nt)) upd_same (lq.mono (Same.put nt)) ld bd
    -- way == 0, 1
    refine seq_mid (fun σ H2 => H2 = H1 ∧ σ = [some (.int h), some (.int w), some (.ref l), some (.int k), some (.int (k % 5)), some (.int o), none]) (fun R hR => ?_) ?_
    · refine ⟨_, rfl, .inl ⟨rfl, _, rfl, ite_b (fun _ => ?_) (fun _ => hR _ _ ⟨rfl, rfl⟩)⟩⟩
      exact ⟨_, rfl, _, rfl, _, rfl, sz rfl, fin _ _ _ cs _ (Same.refl _) hl1 (by omega) (bad_size (fun z => ho z.1))⟩
    rintro σ H1 ⟨rfl, rfl⟩
    refine seq_mid (fun σ H2 => H2 = H1 ∧ σ = [some (.int h), some (.int w), some (.ref l), some (.int k), some (.int (k % 5)), some (.int o), none]) (fun R hR => ?_) ?_
    · refine ⟨_, rfl, .inl ⟨rfl, _, rfl, ite_b (fun _ => ?_) (fun _ => hR _ _ ⟨rfl, rfl⟩)⟩⟩
      exact ⟨_, rfl, _, rfl, _, rfl, sz rfl, fin _ _ _ cs _ (Same.refl _) hl1 (by omega) (bad_size (fun z => ho z.2))⟩
    rintro σ H1 ⟨rfl, rfl⟩
    -- way == 2
    refine seq_mid (fun σ H2 => H2 = H1 ∧ σ = [some (.int h), some (.int w), some (.ref l), some (.int k), some (.int (k % 5)), some (.int o), none]) (fun R hR => ?_) ?_
    · refine ⟨_, rfl, .inl ⟨rfl, _, rfl, ite_b (fun _ => ?_) (fun _ => hR _ _ ⟨rfl, rfl⟩)⟩⟩
      refine ⟨_, rfl, .inl ⟨l, _, rfl, .inl (SqL.of eu1), _, _, rfl, rfl, _, rfl, ite_b (fun h2 => ?_) (fun _ => hR _ _ ⟨rfl, rfl⟩)⟩⟩
      have h2' : (0 : Int) < (us.length : Int) := of_decide_eq_true h2
      obtain ⟨u, mu, au⟩ := atI_of (xs := us) (i := k / 5 % (us.length : Int)) (Int.emod_nonneg _ (by omega)) (Int.emod_lt_of_pos _ h2')
      obtain ⟨y, my, dy⟩ := dens_mem Du mu
      refine ⟨_, rfl, _, rfl, _, rfl, _, rfl, _, rfl, _, _, rfl, rfl, ⟨by decide, by decide⟩, _, rfl, .inl ⟨l, _, rfl, .inl (SqL.of eu1), _, _, rfl, rfl, h2', .inl ⟨l, _, _, _, rfl, rfl, SqL.of eu1, au, ?_⟩⟩⟩
      refine ⟨sz rfl, rd_sort_one (Q := fun v H' => [V.int h, V.int w, v].length ≤ sizeLine ∧ ∀ p, H' p = none → Q (.ref p) (upd H' p (.tup [.int h, .int w, v]))) hl1 (dy.mono s1) (by omega) fun q H' ds s' ld pm as => ?_⟩
      refine ⟨sz rfl, ?_⟩
      refine fin _ _ _ ds _ s' ld (by rw [pm.length_eq, List.length_append, List.length_singleton]; omega) (bad_lay h1 w1 fun z => ?_)
      have nd := pm.nodup_iff.mp (strict_nodup z.1)
      rw [List.nodup_append] at nd
      exact nd.2.2 y my y (List.mem_singleton.mpr rfl) rfl
    rintro σ H1 ⟨rfl, rfl⟩
    -- way == 3
    refine seq_mid (fun σ H2 => H2 = H1 ∧ σ = [some (.int h), some (.int w), some (.ref l), some (.int k), some (.int (k % 5)), some (.int o), none]) (fun R hR => ?_) ?_
    · refine ⟨_, rfl, .inl ⟨rfl, _, rfl, ite_b (fun _ => ?_) (fun _ => hR _ _ ⟨rfl, rfl⟩)⟩⟩
      refine ⟨_, rfl, .inl ⟨l, _, rfl, .inl (SqL.of eu1), _, _, rfl, rfl, _, rfl, ite_b (fun h2 => ?_) (fun _ => hR _ _ ⟨rfl, rfl⟩)⟩⟩
      have h2' : (1 : Int) < (us.length : Int) := of_decide_eq_true h2
      obtain ⟨a, ct, rfl⟩ : ∃ a ct, cs = a :: ct := by
        cases cs with
        | nil => rw [List.length_nil] at lu; omega
        | cons a ct => exact ⟨a, ct, rfl⟩
      obtain ⟨b, ct, rfl⟩ : ∃ b ct', ct = b :: ct' := by
        cases ct with
        | nil => simp only [List.length_cons, List.length_nil] at lu; omega
        | cons b ct => exact ⟨b, ct, rfl⟩
      obtain ⟨u, ut, rfl⟩ : ∃ u ut, us = u :: ut := by
        cases us with
        | nil => simp at lu
        | cons u ut => exact ⟨u, ut, rfl⟩
      have Du1 := Du.mono s1
      have da : Den K H1 u (cellD a) := by cases Du1 with | cons x t => exact x
      have dt : Dens K H1 ut ((b :: ct).map cellD) := by cases Du1 with | cons x t => exact t
      refine ⟨_, rfl, _, rfl, _, rfl, _, rfl, .inl ⟨l, _, rfl, SqL.of eu1, fun l1 n1 => ?_⟩⟩
      rw [cut_tail]
      have t1 := Same.put (o := .lst ut) n1
      refine ⟨_, rfl, _, rfl, .inl ⟨l, _, rfl, SqL.of (t1 _ _ eu1), fun l2 n2 => ?_⟩⟩
      rw [cut_head]
      have t2 := Same.put (o := .lst [u]) n2
      refine rd_cat (K := K) ((Ls.new n1 dt).mono t2) (⟨[u], upd_same, .cons (da.mono (t1.trans t2)) .nil⟩ : Ls K _ l2 ([a].map cellD)) (by simp only [List.length_map, List.length_cons, List.length_nil] at *; omega) fun r H' fr => ?_
      refine ⟨sz rfl, ?_⟩
      refine fin _ _ _ ((b :: ct) ++ [a]) _ (t1.trans (t2.trans fr.same)) (by rw [List.map_append]; exact fr.ls) (by simp only [List.length_append, List.length_cons, List.length_nil] at *; omega) (bad_lay h1 w1 fun z => ?_)
      have k1 : cellLt b a := (List.pairwise_append.mp z.1).2.2 b List.mem_cons_self a (List.mem_singleton.mpr rfl)
      have k2 : cellLt a b := (List.pairwise_cons.mp asc).1 b List.mem_cons_self
      unfold cellLt at k1 k2; omega
    rintro σ H1 ⟨rfl, rfl⟩
    refine seq_mid (fun σ H2 => ∃ (v : V) (y : Cell), Same H1 H2 ∧ Den K H2 v (cellD y) ∧ ¬ inF h w y ∧ σ = [some (.int h), some (.int w), some (.ref l), some (.int k), some (.int (k % 5)), some (.int o), some v]) (fun R hR => ?_) ?_
    · refine ⟨_, rfl, sz rfl, fun u1 n1 => ⟨_, rfl, sz rfl, fun u2 n2 => ⟨_, rfl, sz rfl, fun u3 n3 => ⟨_, rfl, sz rfl, fun u4 n4 => ⟨sz rfl, fun p hp => ?_⟩⟩⟩⟩⟩
      have t1 := Same.put (o := .tup [V.int h, V.int 0]) n1
      have t2 := Same.put (o := .tup [V.int 0, V.int w]) n2
      have t3 := Same.put (o := .tup [V.int (-1), V.int 0]) n3
      have t4 := Same.put (o := .tup [V.int 0, V.int (-1)]) n4
      have d1 : Den K (upd H1 u1 (.tup [V.int h, V.int 0])) (.ref u1) (cellD ((h : Int), 0)) := den_cell
      have d2 : Den K (upd (upd H1 u1 (.tup [V.int h, V.int 0])) u2 (.tup [V.int 0, V.int w])) (.ref u2) (cellD (0, (w : Int))) := den_cell
      have d3 : Den K (upd (upd (upd H1 u1 (.tup [V.int h, V.int 0])) u2 (.tup [V.int 0, V.int w])) u3 (.tup [V.int (-1), V.int 0])) (.ref u3) (cellD (-1, 0)) := den_cell
      have d4 : Den K (upd (upd (upd (upd H1 u1 (.tup [V.int h, V.int 0])) u2 (.tup [V.int 0, V.int w])) u3 (.tup [V.int (-1), V.int 0])) u4 (.tup [V.int 0, V.int (-1)])) (.ref u4) (cellD (0, -1)) := den_cell
      have sp := Same.put (o := .lst [V.ref u1, V.ref u2, V.ref u3, V.ref u4]) hp
      obtain ⟨v, hv, e⟩ := atI_of (xs := [V.ref u1, V.ref u2, V.ref u3, V.ref u4]) (i := k / 5 % 4) (Int.emod_nonneg _ (by decide)) (Int.emod_lt_of_pos _ (by decide))
      refine ⟨_, rfl, _, _, rfl, rfl, ⟨by decide, by decide⟩, _, _, rfl, rfl, (by show (0 : Int) < 4; decide), .inl ⟨p, _, _, _, rfl, rfl, .of upd_same, e, ?_⟩⟩
      have s' := t1.trans (t2.trans (t3.trans (t4.trans sp)))
      rcases List.mem_cons.mp hv with rfl | hv
      · exact hR _ _ ⟨_, _, s', d1.mono (t2.trans (t3.trans (t4.trans sp))), fun z => by have := z.1.2; dsimp only at this; omega, rfl⟩
      rcases List.mem_cons.mp hv with rfl | hv
      · exact hR _ _ ⟨_, _, s', d2.mono (t3.trans (t4.trans sp)), fun z => by have := z.2.2; dsimp only at this; omega, rfl⟩
      rcases List.mem_cons.mp hv with rfl | hv
      · exact hR _ _ ⟨_, _, s', d3.mono (t4.trans sp), fun z => by have := z.1.1; dsimp only at this; omega, rfl⟩
      · rw [List.mem_singleton.mp hv]
        exact hR _ _ ⟨_, _, s', d4.mono sp, fun z => by have := z.2.1; dsimp only at this; omega, rfl⟩
    rintro σ H2 ⟨v, y, s2, dv, nin, rfl⟩
    refine ⟨_, rfl, _, rfl, _, rfl, _, rfl, sz rfl, rd_sort_one (Q := fun v H' => [V.int h, V.int w, v].length ≤ sizeLine ∧ ∀ p, H' p = none → Q (.ref p) (upd H' p (.tup [.int h, .int w, v]))) (hl1.mono s2) dv (by omega) fun q H' ds s' ld pm as => ?_⟩
    refine ⟨sz rfl, ?_⟩
    refine fin _ _ _ ds _ (s2.trans s') ld (by rw [pm.length_eq, List.length_append, List.length_singleton]; omega) (bad_lay h1 w1 fun z => ?_)
    have := z.2 y (pm.mem_iff.mpr (List.mem_append.mpr (.inr (List.mem_singleton.mpr rfl))))
    unfold closedB at this
    rw [blank_len, decide_eq_false nin, Bool.false_and] at this; cases this
theorem ok_metg {f : Addr} {fd : FuncData} (F : Fun K "_law_met" "_law_met" s__law_met f fd) (T : Txt K mg Z) (M_Game : Md P w K mg base 5 "Game" ["self", "height", "width", "stones"] Z.Game (spGInit K Z.Game Z.View Z.BadView Z.BadLaying)) : FnOk P w K mg base (CXE P w) 7 f fd ["height", "width", "stones"] (spMetG K Z.Game Z.View) := by
  refine F.rok sc__law_met (fun vs H Q E h => ?_) (fun cdv A outer s H vs Q E hr h => ?_)
  · obtain ⟨l, h, w, cs, rfl, _⟩ := h; rfl
  · obtain ⟨l, h, w, cs, rfl, hl, hc, q1, q2, q3⟩ := h
    refine ⟨_, (rss_one (rs_try rfl rfl (rsx_ret (rx_make M_Game hr rfl (ra_cons (rv 0) (ra_cons (rv 1) (ra_cons (rv 2) ra_nil))))) (rh_cons (i := 3) rfl sc__law_met.nd rfl rfl rfl T.c_BadView T.x_BadView (fun _ => (rss_one (rs_ret (r_lst (ra_cons r_int (ra_cons (r_and (r_callB (k_isiG (K := K)) rfl T.b_isinstance bt_isinstance (ra_cons (rv 3) (ra_cons (r_cls T.c_FieldError rfl) ra_nil))) (r_one (r_callB (k_isiG (K := K)) rfl T.b_isinstance bt_isinstance (ra_cons (rv 3) (ra_cons (r_ty T.b_ValueError rfl bt_ValueError) ra_nil))))) ra_nil)))))) (rh_cons (i := 3) rfl sc__law_met.nd rfl rfl rfl T.c_BadLaying T.x_BadLaying (fun _ => (rss_one (rs_ret (r_lst (ra_cons r_int (ra_cons (r_and (r_callB (k_isiG (K := K)) rfl T.b_isinstance bt_isinstance (ra_cons (rv 3) (ra_cons (r_cls T.c_FieldError rfl) ra_nil))) (r_one (r_callB (k_isiG (K := K)) rfl T.b_isinstance bt_isinstance (ra_cons (rv 3) (ra_cons (r_ty T.b_ValueError rfl bt_ValueError) ra_nil))))) ra_nil)))))) rh_nil)))), ?_⟩
    refine ⟨_, rfl, _, rfl, _, rfl, fun x dx nx ndx nex => ?_⟩
    have n2 : (upd H dx (.own x)) x = none := by rw [upd_ne nex.symm]; exact nx
    have s6 : Same H (upd (upd H dx (.own x)) x (.ins Z.Game dx [])) := (Same.put ndx).and n2
    refine ⟨x, dx, l, h, w, cs, rfl, upd_same, hl.mono s6, hc, fun hb H' s' => ?_, fun hb hy H' s' => ?_, fun hb hy H' f hd d nf nhd nd n1 n2' n3 n4 G keep => ⟨rfl, ?_⟩⟩
    · refine ⟨Z.BadView, rfl, .inl ⟨rfl, fun ea hea => ?_⟩⟩
      have s8 := Same.put (o := ErrO ea Z.BadView) hea
      refine ⟨_, rfl, .inl ⟨_, _, _, rfl, rfl, .inr ⟨ea, Z.BadView, rfl, upd_same, T.q_bf, _, rfl, iteT ?_⟩⟩⟩
      refine ⟨_, rfl, .inl ⟨_, _, _, rfl, rfl, .inr ⟨ea, Z.BadView, rfl, upd_same, T.q_bv, ?_⟩⟩⟩
      exact ⟨sz rfl, fun q hq => q1 hb q _ (s6.trans (s'.trans (s8.and hq))) upd_same⟩
    · obtain ⟨m1, m2, m3⟩ := miss_of T.x_BadLaying T.q_lb
      refine ⟨Z.BadLaying, rfl, .inr ⟨m1, m2, m3, .inl ⟨rfl, fun ea hea => ?_⟩⟩⟩
      have s8 := Same.put (o := ErrO ea Z.BadLaying) hea
      refine ⟨_, rfl, .inl ⟨_, _, _, rfl, rfl, .inr ⟨ea, Z.BadLaying, rfl, upd_same, T.q_lf, _, rfl, iteT ?_⟩⟩⟩
      refine ⟨_, rfl, .inl ⟨_, _, _, rfl, rfl, .inr ⟨ea, Z.BadLaying, rfl, upd_same, T.q_lv, ?_⟩⟩⟩
      exact ⟨sz rfl, fun q hq => q2 hb hy q _ (s6.trans (s'.trans (s8.and hq))) upd_same⟩
    · have nn : ∀ a, (upd (upd H dx (.own x)) x (.ins Z.Game dx [])) a = none → H a = none := fun a z => s6.free z
      exact q3 hb hy x _ f hd d nx (nn _ nf) (nn _ nhd) (nn _ nd) n1 n2' n3 n4 (fun b o e => keep b o (s6 _ _ e) (ne_of_none e nx)) G
end
end My

set_option Elab.async false
set_option linter.all false
set_option maxRecDepth 100000
set_option maxHeartbeats 1000000
namespace My
open PySem L2
def spLaw (K : PySem.W.Frag) : Sp := fun vs H Q _ => ∃ (a : Addr) (ns : List Int), vs = [.ref a] ∧ SqL K H a (ns.map V.int) ∧ ∀ H', Q (.bl true) H'
theorem shown_nil (h w : Nat) (st : List Cell) : shownL h w st [] = blankL h w := by
  unfold blankL shownL
  refine List.map_congr_left fun r _ => ?_
  unfold rowN
  have : ((List.range w).map fun c : Nat => sgnN h w st [] ((r : Int), (c : Int))) = (List.range w).map fun c : Nat => sgnN h w [] [] ((r : Int), (c : Int)) := List.map_congr_left fun c _ => rfl
  rw [this]
theorem game_but {K : PySem.W.Frag} {C CV : Addr} {H H' : Hp} {p g : Addr} {h w : Nat} {st kn cs : List Cell} {us : List V} {lost : Bool} {f hd d : Addr} (G : GameAt K C CV H g h w st kn lost f hd d) (s : SameBut p H H') (hp : H p = some (.lst us)) (D : Dens K H us (cs.map cellD)) (n : p ≠ hd) : GameAt K C CV H' g h w st kn lost f hd d := by
  obtain ⟨dx, e⟩ := G.ob
  obtain ⟨dy, ly, e1, e2⟩ := G.fl.ob
  have nly : ly ≠ p := by
    intro z
    rw [z, hp] at e2
    injection e2 with e2
    injection e2 with e2
    obtain ⟨z0, zt, ez, _⟩ := G.fl.vw.toRect.head
    rw [ez] at e2
    subst e2
    cases cs with
    | nil => cases D
    | cons c cs =>
      cases D with
      | cons d0 _ =>
        obtain ⟨a, ea, _⟩ := cell_ref d0
        cases ea
  refine ⟨⟨dx, s _ _ e (ne_of hp e (by intro z; cases z)).symm⟩, ⟨⟨dy, ly, s _ _ e1 (ne_of hp e1 (by intro z; cases z)).symm, s _ _ e2 nly⟩, G.fl.vw⟩, s.ls hp n.symm G.hs, s _ _ G.dc (ne_of hp G.dc (by intro z; cases z)).symm⟩
section
variable {P : Program} {w : World} {K : PySem.W.Frag} {mg : Str → Option Value} {base : Heap} {Z : Adr}
theorem ok_law {f : Addr} {fd : FuncData} (F : Fun K "law" "law" s_law f fd) (T : Txt K mg Z) (D__law_cell_at : Df P w K mg base 1 "_law_cell_at" ["script", "k"] (spCell K)) (D__law_field_by : Df P w K mg base 2 "_law_field_by" ["script", "most"] (spField K))
    (D__law_hurt : Df P w K mg base 1 "_law_hurt" ["height", "width", "stones", "cell"] (spHurtG K)) (D__law_met : Df P w K mg base 7 "_law_met" ["height", "width", "stones"] (spMetG K Z.Game Z.View)) (N_Game_view : Mth P w K mg base 5 Z.Game "view" ["self"] (spGView K Z.Game Z.View)) (N_Game_state : Mth P w K mg base 1 Z.Game "state" ["self"] (spGState K Z.Game Z.View)) :
    FnOk P w K mg base (CXE P w) 8 f fd ["script"] (spLaw K) := by
  refine F.rok sc_law (fun vs H Q E h => ?_) (fun cdv A outer s H vs Q E hr h => ?_)
  · obtain ⟨a, ns, rfl, _⟩ := h; rfl
  · obtain ⟨a, ns, rfl, hS, hq⟩ := h
    have hu := hu60 hr
    refine ⟨_, (rss_cons (rs_asg (r_def D__law_field_by hr rfl passE (ra_cons (rv 0) (ra_cons r_int ra_nil))) (rg_tup rfl (rgs_cons (rg_name (i := 1) sc_law.nd rfl (by first | exact Or.inl rfl | exact Or.inr rfl)) (rgs_cons (rg_name (i := 2) sc_law.nd rfl (by first | exact Or.inl rfl | exact Or.inr rfl)) (rgs_cons (rg_name (i := 3) sc_law.nd rfl (by first | exact Or.inl rfl | exact Or.inr rfl)) rgs_nil))))) (rss_cons (rs_set (i := 4) sc_law.nd rfl (by first | exact Or.inl rfl | exact Or.inr rfl) (r_def D__law_cell_at hr rfl passE (ra_cons (rv 0) (ra_cons r_int ra_nil)))) (rss_cons (rs_if (rt_cmp op_gt (r_op op_mod (rv 4) r_int) r_int (nomark _)) (rss_one (rs_asg (r_def D__law_hurt hr rfl passE (ra_cons (rv 1) (ra_cons (rv 2) (ra_cons (rv 3) (ra_cons (r_op op_fdiv (rv 4) r_int) ra_nil))))) (rg_tup rfl (rgs_cons (rg_name (i := 1) sc_law.nd rfl (by first | exact Or.inl rfl | exact Or.inr rfl)) (rgs_cons (rg_name (i := 2) sc_law.nd rfl (by first | exact Or.inl rfl | exact Or.inr rfl)) (rgs_cons (rg_name (i := 3) sc_law.nd rfl (by first | exact Or.inl rfl | exact Or.inr rfl)) rgs_nil)))))) rss_nil) (rss_cons (rs_set (i := 5) sc_law.nd rfl (by first | exact Or.inl rfl | exact Or.inr rfl) (r_callTy (k_list (K := K)) rfl T.b_list bt_list (ra_cons (rv 3) ra_nil))) (rss_cons (rs_set (i := 6) sc_law.nd rfl (by first | exact Or.inl rfl | exact Or.inr rfl) (r_def D__law_met hr rfl passE (ra_cons (rv 1) (ra_cons (rv 2) (ra_cons (rv 5) ra_nil))))) (rss_cons (rs_if (rt_cmp (op_ne.or (k_neD (K := K) hu)) (rv 5) (rv 3) (nomark _)) (rss_one (rs_ret r_bl)) rss_nil) (rss_cons (rs_if (rt_b (rb_or (rt_not (rt_chain op_le op_le r_int (rv 1) r_int)) (rb_or1 (rt_not (rt_chain op_le op_le r_int (rv 2) r_int))))) (rss_one (rs_ret (r_cmp (op_eq.or (k_eqD (K := K) hu)) (rv 6) (r_lst (ra_cons r_int (ra_cons r_bl ra_nil))) (nomark _)))) rss_nil) (rss_cons (rs_if (rt_cmp op_gt (r_op op_mod (rv 4) r_int) r_int (nomark _)) (rss_one (rs_ret (r_cmp (op_eq.or (k_eqD (K := K) hu)) (rv 6) (r_lst (ra_cons r_int (ra_cons r_bl ra_nil))) (nomark _)))) rss_nil) (rss_cons (rs_expr (kr_bm (K := K) PySem.F.plainAttrs_list PySem.F.slot_list_append PySem.F.type_list_append mt_append (rv 5) (ra_cons (r_tup (ra_cons r_int (ra_cons r_int ra_nil))) ra_nil))) (rss_cons (rs_if (rt_b (rb_or (rt_not (rt_val (r_callB (k_isiO (K := K)) rfl T.b_isinstance bt_isinstance (ra_cons (rv 6) (ra_cons (r_cls T.c_Game rfl) ra_nil))))) (rb_or1 (rt_cmp (op_ne.or (k_neD (K := K) hu)) (kr_fld (K := K) (r_meth0 N_Game_view hr passE (rv 6))) (r_op op_mulG (r_lst (ra_cons (r_op op_mulG r_str (rv 2)) ra_nil)) (rv 1)) (nomark _))))) (rss_one (rs_ret r_bl)) rss_nil) (rss_one (rs_ret (r_cmp (op_eq.or (k_eqD (K := K) hu)) (r_meth0 N_Game_state hr passE (rv 6)) (r_ix (k_ix (K := K)) (r_lst (ra_cons r_str (ra_cons r_str ra_nil))) (r_callTy call_int1 rfl T.b_int bt_int (ra_cons (r_cmp (op_eq.or (k_eqD (K := K) hu)) (r_callB (k_len (K := K)) rfl T.b_len bt_len (ra_cons (rv 3) ra_nil)) (r_op op_mulG (rv 1) (rv 2)) (nomark _)) ra_nil))) (nomark _)))))))))))))), ?_⟩
    refine seq_mid (fun σ H1 => ∃ (p : Addr) (h w : Nat) (st : List Cell), Same H H1 ∧ Ls K H1 p (st.map cellD) ∧ (1 ≤ h ∧ h ≤ 6) ∧ (1 ≤ w ∧ w ≤ 6) ∧ st.Sublist (fieldL h w) ∧ σ = [some (.ref a), some (.int h), some (.int w), some (.ref p), none, none, none]) (fun R hR => ?_) ?_
    · exact ⟨_, rfl, a, ns, 6, rfl, hS, by decide, by decide, fun t p H' h w st s' np hT lp a1 a2 a3 a4 a5 => ⟨t, _, rfl, hT, rfl, _, _, rfl, _, _, rfl, _, _, rfl, rfl, hR _ _ ⟨p, h, w, st, s', lp, ⟨a1, by omega⟩, ⟨a3, by omega⟩, a5, rfl⟩⟩⟩
    rintro σ H1 ⟨p, h, w, st, s1, lp, bh, bw, sub, rfl⟩
    refine seq_mid (fun σ H2 => ∃ k : Int, H2 = H1 ∧ σ = [some (.ref a), some (.int h), some (.int w), some (.ref p), some (.int k), none, none]) (fun R hR => ?_) ?_
    · exact ⟨_, rfl, a, ns, 10, rfl, by decide, s1.seq hS, fun k => hR _ _ ⟨k, rfl, rfl⟩⟩
    rintro σ H1 ⟨k, rfl, rfl⟩
    have asc : st.Pairwise cellLt := (field_asc h (List.mem_range.mpr (by omega)) w (List.mem_range.mpr (by omega))).sublist sub
    have lst : st.length ≤ 36 := by
      have := sub.length_le
      rw [field_len] at this
      have : h * w ≤ 6 * 6 := Nat.mul_le_mul bh.2 bw.2
      omega
    refine seq_mid (fun σ H2 => ∃ (h' w' : Int) (q : Addr) (cs : List Cell), Same H1 H2 ∧ Ls K H2 q (cs.map cellD) ∧ cs.length ≤ 100 ∧ ((0 < k % 3 ∧ BadG h' w' cs) ∨ (¬ 0 < k % 3 ∧ h' = h ∧ w' = w ∧ cs = st)) ∧ σ = [some (.ref a), some (.int h'), some (.int w'), some (.ref q), some (.int k), none, none]) (fun R hR => ?_) ?_
    · refine ⟨_, rfl, _, _, rfl, rfl, (by show (0 : Int) < 3; decide), _, _, rfl, rfl, _, rfl, ?_⟩
      refine ite_b (fun h1 => ?_) (fun h1 => hR _ _ ⟨h, w, p, st, Same.refl _, lp, by omega, .inr ⟨of_decide_eq_false h1, rfl, rfl, rfl⟩, rfl⟩)
      refine ⟨_, rfl, _, rfl, _, rfl, _, rfl, _, _, rfl, rfl, ⟨by decide, by decide⟩, p, h, w, _, st, rfl, bh, bw, lp, asc, lst, fun t q H' h' w' ds s' ht lq ld bd => ?_⟩
      exact ⟨t, _, rfl, SqT.of ht, rfl, _, _, rfl, _, _, rfl, _, _, rfl, rfl, hR _ _ ⟨h', w', q, ds, s', lq, ld, .inl ⟨of_decide_eq_true h1, bd⟩, rfl⟩⟩
    rintro σ H2 ⟨h', w', q, cs, s2, lq, lc, alt, rfl⟩
    obtain ⟨us, eu, Du⟩ := id lq
    refine seq_mid (fun σ H3 => ∃ (g : Addr), Same H2 H3 ∧ Ls K H3 g (cs.map cellD) ∧ g ≠ q ∧ σ = [some (.ref a), some (.int h'), some (.int w'), some (.ref q), some (.int k), some (.ref g), none]) (fun R hR => ?_) ?_
    · exact ⟨_, rfl, q, _, rfl, .inl (SqL.of eu), fun g hg => hR _ _ ⟨g, Same.put hg, .new hg Du, (ne_of_none eu hg).symm, rfl⟩⟩
    rintro σ H3 ⟨g, s3, lg, ngq, rfl⟩
    refine seq_mid (fun σ H4 => ∃ (u : V), Same H3 H4 ∧ ((sizeB h' w' = false ∧ ∃ t, u = .ref t ∧ H4 t = some (.lst [.int 1, .bl true])) ∨ (sizeB h' w' = true ∧ layB (blankL h'.toNat w'.toNat) w'.toNat cs = false ∧ ∃ t, u = .ref t ∧ H4 t = some (.lst [.int 2, .bl true])) ∨
      (sizeB h' w' = true ∧ layB (blankL h'.toNat w'.toNat) w'.toNat cs = true ∧ ∃ x f hd d, u = .ref x ∧ H3 hd = none ∧ GameAt K Z.Game Z.View H4 x h'.toNat w'.toNat cs [] false f hd d)) ∧ σ = [some (.ref a), some (.int h'), some (.int w'), some (.ref q), some (.int k), some (.ref g), some u]) (fun R hR => ?_) ?_
    · refine ⟨_, rfl, _, rfl, _, rfl, g, h', w', cs, rfl, lg, by omega, fun hb t H' s' ht => hR _ _ ⟨_, s', .inl ⟨hb, t, rfl, ht⟩, rfl⟩, fun hb hy t H' s' ht => hR _ _ ⟨_, s', .inr (.inl ⟨hb, hy, t, rfl, ht⟩), rfl⟩, fun hb hy x H' f hd d _ _ nhd _ _ _ _ _ s' G => hR _ _ ⟨_, s', .inr (.inr ⟨hb, hy, x, f, hd, d, rfl, nhd, G⟩), rfl⟩⟩
    rintro σ H4 ⟨u, s4, res, rfl⟩
    refine seq_mid (fun σ H5 => H5 = H4 ∧ σ = [some (.ref a), some (.int h'), some (.int w'), some (.ref q), some (.int k), some (.ref g), some u]) (fun R hR => ?_) ?_
    · refine ⟨_, rfl, _, rfl, .inr ⟨_, _, rfl, (lg.mono s4).den, (lq.mono (s3.trans s4)).den, shD_refl _, dep_cells cs, _, rfl, ?_⟩⟩
      show if (!eqD _ _) = true then _ else _
      rw [eqD_refl]
      exact iteF (hR _ _ ⟨rfl, rfl⟩)
    rintro σ H4 ⟨rfl, rfl⟩
    -- no size
    have told : ∀ n : Int, ∀ (t : Addr) (H5 : Hp), H5 t = some (.lst [.int n, .bl true]) → ∀ t2, H5 t2 = none → rEqD K false (.ref t) (.ref t2) (upd H5 t2 (.lst [.int n, .bl true])) Q := fun n t H5 ht t2 n2 => by
      refine ⟨.lst [.int n, .bl true], .lst [.int n, .bl true], rfl, .lst (SqL.of ((Same.put n2) _ _ ht)) (.cons (.int _) (.cons (.bl _) .nil)), .lst (SqL.of upd_same) (.cons (.int _) (.cons (.bl _) .nil)), rfl, Nat.le_of_ble_eq_true rfl, ?_⟩
      show Q (.bl (eqD _ _)) _
      rw [eqD_refl]; exact hq _
    refine seq_mid (fun σ H5 => H5 = H4 ∧ sizeB h' w' = true ∧ σ = [some (.ref a), some (.int h'), some (.int w'), some (.ref q), some (.int k), some (.ref g), some u]) (fun R hR => ?_) ?_
    · have bad : sizeB h' w' = false → ∃ t, u = .ref t ∧ H4 t = some (.lst [.int 1, .bl true]) := fun z => by
        rcases res with ⟨_, t, ht⟩ | ⟨y, _⟩ | ⟨y, _⟩
        · exact ⟨t, ht⟩
        · rw [z] at y; cases y
        · rw [z] at y; cases y
      have fin1 : sizeB h' w' = false → ∀ t2, H4 t2 = none → (rEqD K false u (.ref t2) (upd H4 t2 (.lst [.int 1, .bl true])) Q) := fun z => by
        obtain ⟨t, rfl, ht⟩ := bad z
        exact told 1 t H4 ht
      refine ⟨_, rfl, _, _, rfl, rfl, _, rfl, ?_⟩
      refine chain_le (m := 6) (fun _ q => q) (ite_b (fun hb => ?_) (fun hb => ?_))
      · have hb : ¬ (1 ≤ h' ∧ h' ≤ 6) := of_decide_eq_false (by simpa only [Bool.not_eq_true'] using hb)
        exact ⟨_, rfl, sz rfl, fun t2 n2 => .inr (fin1 (Bool.eq_false_iff.mpr fun e => hb (size_iff.mp e).1) t2 n2)⟩
      have hb : 1 ≤ h' ∧ h' ≤ 6 := of_decide_eq_true (by simpa only [Bool.not_eq_false'] using hb)
      refine ⟨_, rfl, _, _, rfl, rfl, _, rfl, ?_⟩
      refine chain_le (m := 6) (fun _ q => q) (ite_b (fun hc => ?_) (fun hc => ?_))
      · have hc : ¬ (1 ≤ w' ∧ w' ≤ 6) := of_decide_eq_false (by simpa only [Bool.not_eq_true'] using hc)
        exact ⟨_, rfl, sz rfl, fun t2 n2 => .inr (fin1 (Bool.eq_false_iff.mpr fun e => hc (size_iff.mp e).2) t2 n2)⟩
      have hc : 1 ≤ w' ∧ w' ≤ 6 := of_decide_eq_true (by simpa only [Bool.not_eq_false'] using hc)
      exact hR _ _ ⟨rfl, size_iff.mpr ⟨hb, hc⟩, rfl⟩
    rintro σ H4 ⟨rfl, hsz, rfl⟩
    refine seq_mid (fun σ H5 => H5 = H4 ∧ ¬ 0 < k % 3 ∧ σ = [some (.ref a), some (.int h'), some (.int w'), some (.ref q), some (.int k), some (.ref g), some u]) (fun R hR => ?_) ?_
    · refine ⟨_, rfl, _, _, rfl, rfl, (by show (0 : Int) < 3; decide), _, _, rfl, rfl, _, rfl, ?_⟩
      refine ite_b (fun h1 => ?_) (fun h1 => hR _ _ ⟨rfl, of_decide_eq_false h1, rfl⟩)
      have h1 := of_decide_eq_true h1
      rcases alt with ⟨_, bd⟩ | ⟨z, _⟩
      · have hlay : layB (blankL h'.toNat w'.toNat) w'.toNat cs = false := by
          rcases bd with z | z
          · rw [z] at hsz; cases hsz
          · exact z.2
        rcases res with ⟨y, _⟩ | ⟨_, _, t, rfl, ht⟩ | ⟨_, y, _⟩
        · rw [y] at hsz; cases hsz
        · exact ⟨_, rfl, sz rfl, fun t2 n2 => .inr (told 2 t _ ht t2 n2)⟩
        · rw [y] at hlay; cases hlay
      · exact absurd h1 z
    rintro σ H4 ⟨rfl, hk, rfl⟩
    rcases alt with ⟨z, _⟩ | ⟨_, rfl, rfl, rfl⟩
    · exact absurd z hk
    have vwb : Vw (blankL h w) w := shown_vw bh.1 bh.2 bw.1 bw.2
    have hlay : layB (blankL h w) w cs = true := by
      refine lay_of asc fun c hc => ?_
      have hin := mem_field.mp (sub.subset hc)
      show closedB (shownL h w [] []) w c = true
      rw [closed_shown, decide_eq_true hin]; rfl
    rw [Int.toNat_natCast, Int.toNat_natCast] at res
    rcases res with ⟨y, _⟩ | ⟨_, y, _⟩ | ⟨_, _, x, f, hd, d, rfl, nhd, G⟩
    · rw [y] at hsz; cases hsz
    · rw [y] at hlay; cases hlay
    obtain ⟨gs, eg, Dg⟩ := lg
    have ngh : g ≠ hd := ne_of_none eg nhd
    have eg4 := s4 _ _ eg
    have Dg4 := Dg.mono s4
    refine seq_mid (fun σ H5 => GameAt K Z.Game Z.View H5 x h w cs [] false f hd d ∧ Ls K H5 q (cs.map cellD) ∧ σ = [some (.ref a), some (.int h), some (.int w), some (.ref q), some (.int k), some (.ref g), some (.ref x)]) (fun R hR => ?_) ?_
    · refine ⟨_, rfl, .inl ⟨rfl, _, SqL.of eg4⟩, sz rfl, fun t ht => ?_⟩
      have st1 := Same.put (o := .tup [V.int 0, V.int 0]) ht
      have e5 := st1 _ _ eg4
      have lgs : gs.length ≤ 100 := by rw [Dg.length, List.length_map]; omega
      refine ⟨g, gs, _, rfl, rfl, e5, ltl (by omega), hR _ _ ⟨game_but (G.mono st1) (SameBut.refl g _).put e5 (Dg4.mono st1) ngh, (SameBut.refl g _).put.ls e5 ngq.symm (lq.mono (s3.trans (s4.trans st1))), rfl⟩⟩
    rintro σ H5 ⟨G5, lq5, rfl⟩
    obtain ⟨dx, hx5⟩ := G5.ob
    refine seq_mid (fun σ H6 => GameAt K Z.Game Z.View H6 x h w cs [] false f hd d ∧ Ls K H6 q (cs.map cellD) ∧ σ = [some (.ref a), some (.int h), some (.int w), some (.ref q), some (.int k), some (.ref g), some (.ref x)]) (fun R hR => ?_) ?_
    · refine ⟨_, rfl, x, Z.Game, dx, _, _, _, rfl, rfl, hx5, T.q_gg, _, rfl, iteF ?_⟩
      refine ⟨_, rfl, x, dx, _, rfl, hx5, g_none _ _ _ _ (by decide +kernel) (by decide +kernel) (by decide +kernel) (by decide +kernel), x, h, w, cs, [], false, f, hd, d, rfl, G5, fun y H6 ny s6 vt => ?_⟩
      obtain ⟨dy, ly, e1, e2⟩ := vt.ob
      rw [shown_nil] at e1 e2
      refine ⟨y, Z.View, dy, _, _, rfl, e1, T.cl_View, T.n_View_rows, f_rows _ _ _, ?_⟩
      refine ⟨_, rfl, by decide, by omega, by omega, sz rfl, fun p1 n1 => ?_⟩
      refine ⟨_, rfl, _, upd_same, by omega, by omega, small (by show 1 * _ ≤ 10000; omega), fun p2 n2 => ?_⟩
      have eL : (List.replicate ((h : Nat) : Int).toNat [V.str (repS "#" (w : Int))]).flatten = (blankL h w).map V.str := by rw [Int.toNat_natCast, flat_one, blank_eq h w bw.1 bw.2]
      rw [eL]
      have t1 := Same.put (o := .lst [V.str (repS "#" (w : Int))]) n1
      have t2 := Same.put (o := .lst ((blankL h w).map V.str)) n2
      refine .inr ⟨_, _, rfl, den_txt ((t1.trans t2) _ _ e2), den_txt upd_same, shD_refl _, dep_lst _, _, rfl, ?_⟩
      show if (!eqD _ _) = true then _ else _
      rw [eqD_refl]
      exact iteF (hR _ _ ⟨G5.mono (s6.trans (t1.trans t2)), lq5.mono (s6.trans (t1.trans t2)), rfl⟩)
    rintro σ H6 ⟨G6, lq6, rfl⟩
    obtain ⟨dx, hx6⟩ := G6.ob
    refine ⟨_, rfl, x, dx, _, rfl, hx6, g_none _ _ _ _ (by decide +kernel) (by decide +kernel) (by decide +kernel) (by decide +kernel), x, h, w, cs, [], false, f, hd, d, rfl, G6, ?_⟩
    obtain ⟨qs, eq6, Dq⟩ := lq6
    have lqs : qs.length = cs.length := by rw [Dq.length, List.length_map]
    refine ⟨sz rfl, fun p1 n1 => ?_⟩
    have t1 := Same.put (o := .lst [V.str "on", V.str "won"]) n1
    refine ⟨_, rfl, .inl ⟨q, _, rfl, .inl (SqL.of (t1 _ _ eq6)), ?_⟩⟩
    refine ⟨_, rfl, _, rfl, .inl ⟨by omega, by omega⟩, .inl ⟨rfl, ?_⟩⟩
    rw [dec_v]
    have ed : decide (((qs.length : Nat) : Int) = (h : Int) * (w : Int)) = decide (([] : List Cell).length + cs.length = h * w) := by
      rw [decide_eq_decide, lqs, List.length_nil]; omega
    rw [ed]
    unfold stateS
    rw [if_neg (by decide)]
    by_cases hw : ([] : List Cell).length + cs.length = h * w
    · rw [decide_eq_true hw, if_pos hw]
      refine .inr ⟨true, rfl, .inl ⟨p1, _, _, _, rfl, rfl, .of upd_same, atI_nat (j := 1) rfl, .inl ⟨rfl, ?_⟩⟩⟩
      rw [decide_eq_true rfl]; exact hq _
    · rw [decide_eq_false hw, if_neg hw]
      refine .inr ⟨false, rfl, .inl ⟨p1, _, _, _, rfl, rfl, .of upd_same, atI_nat (j := 0) rfl, .inl ⟨rfl, ?_⟩⟩⟩
      rw [decide_eq_true rfl]; exact hq _
end
end My

set_option Elab.async false
set_option linter.all false
set_option maxRecDepth 100000
set_option maxHeartbeats 4000000
namespace My
open PySem L2
theorem all_mk {l : PySem.W.OpenLaw} {w : World} {K : PySem.W.Frag} {h : Heap} {mg : Str → Option Value} {fa : Addr} (X : K.In h) (G : h.Ns mainGlobals mg) (hfa : mg "law" = some (.ref fa))
    {Z_FieldError : Addr}
    {Z_BadView : Addr}
    {Z_BadLaying : Addr}
    {Z_View : Addr}
    {f_View___init__ : Addr} {od_View___init__ an_View___init__ : Option Addr} {sl_View___init__ : Array (Option Value)} {oc_View___init__ kV_View___init__ dc_View___init__ pm_View___init__ cd_View___init__ ct_View___init__ : Value}
    {Z_Game : Addr}
    {f_Game___init__ : Addr} {od_Game___init__ an_Game___init__ : Option Addr} {sl_Game___init__ : Array (Option Value)} {oc_Game___init__ kV_Game___init__ dc_Game___init__ pm_Game___init__ cd_Game___init__ ct_Game___init__ : Value}
    {f_Game_view : Addr} {od_Game_view an_Game_view : Option Addr} {sl_Game_view : Array (Option Value)} {oc_Game_view kV_Game_view dc_Game_view pm_Game_view cd_Game_view ct_Game_view : Value}
    {f_Game_state : Addr} {od_Game_state an_Game_state : Option Addr} {sl_Game_state : Array (Option Value)} {oc_Game_state kV_Game_state dc_Game_state pm_Game_state cd_Game_state ct_Game_state : Value}
    {t_MOST_ROWS : Tok}
    {t_MOST_COLUMNS : Tok}
    {t_CLOSED_SIGN : Tok}
    {t_SIGNS : Tok}
    {f__law_cell_at : Addr} {od__law_cell_at an__law_cell_at : Option Addr} {sl__law_cell_at : Array (Option Value)} {oc__law_cell_at kV__law_cell_at dc__law_cell_at pm__law_cell_at cd__law_cell_at ct__law_cell_at : Value}
    {f__law_mix : Addr} {od__law_mix an__law_mix : Option Addr} {sl__law_mix : Array (Option Value)} {oc__law_mix kV__law_mix dc__law_mix pm__law_mix cd__law_mix ct__law_mix : Value}
    {f__law_field_by : Addr} {od__law_field_by an__law_field_by : Option Addr} {sl__law_field_by : Array (Option Value)} {oc__law_field_by kV__law_field_by dc__law_field_by pm__law_field_by cd__law_field_by ct__law_field_by : Value}
    {f_is_row : Addr} {od_is_row an_is_row : Option Addr} {sl_is_row : Array (Option Value)} {oc_is_row kV_is_row dc_is_row pm_is_row cd_is_row ct_is_row : Value}
    {f_is_size : Addr} {od_is_size an_is_size : Option Addr} {sl_is_size : Array (Option Value)} {oc_is_size kV_is_size dc_is_size pm_is_size cd_is_size ct_is_size : Value}
    {f_is_view : Addr} {od_is_view an_is_view : Option Addr} {sl_is_view : Array (Option Value)} {oc_is_view kV_is_view dc_is_view pm_is_view cd_is_view ct_is_view : Value}
    {f_has_cell : Addr} {od_has_cell an_has_cell : Option Addr} {sl_has_cell : Array (Option Value)} {oc_has_cell kV_has_cell dc_has_cell pm_has_cell cd_has_cell ct_has_cell : Value}
    {f_is_closed : Addr} {od_is_closed an_is_closed : Option Addr} {sl_is_closed : Array (Option Value)} {oc_is_closed kV_is_closed dc_is_closed pm_is_closed cd_is_closed ct_is_closed : Value}
    {f_is_laying : Addr} {od_is_laying an_is_laying : Option Addr} {sl_is_laying : Array (Option Value)} {oc_is_laying kV_is_laying dc_is_laying pm_is_laying cd_is_laying ct_is_laying : Value}
    {f__law_hurt : Addr} {od__law_hurt an__law_hurt : Option Addr} {sl__law_hurt : Array (Option Value)} {oc__law_hurt kV__law_hurt dc__law_hurt pm__law_hurt cd__law_hurt ct__law_hurt : Value}
    {f__law_met : Addr} {od__law_met an__law_met : Option Addr} {sl__law_met : Array (Option Value)} {oc__law_met kV__law_met dc__law_met pm__law_met cd__law_met ct__law_met : Value}
    {f_law : Addr} {od_law an_law : Option Addr} {sl_law : Array (Option Value)} {oc_law kV_law dc_law pm_law cd_law ct_law : Value}
    (a_FieldError : PySem.W.nsIn K mainGlobals "FieldError" = some (some (.ref Z_FieldError)))
    (x_FieldError : PySem.W.excIn K Z_FieldError [.type "ValueError", .type "Exception", .type "BaseException", .type "object"] "ValueError.__new__" = true)
    (a_BadView : PySem.W.nsIn K mainGlobals "BadView" = some (some (.ref Z_BadView)))
    (x_BadView : PySem.W.excIn K Z_BadView [.type "ValueError", .type "Exception", .type "BaseException", .type "object"] "ValueError.__new__" = true)
    (a_BadLaying : PySem.W.nsIn K mainGlobals "BadLaying" = some (some (.ref Z_BadLaying)))
    (x_BadLaying : PySem.W.excIn K Z_BadLaying [.type "ValueError", .type "Exception", .type "BaseException", .type "object"] "ValueError.__new__" = true)
    (a_View : PySem.W.nsIn K mainGlobals "View" = some (some (.ref Z_View)))
    (a_View___init__ : PySem.W.findIn K (.ref Z_View) "__init__" = some (some (.ref f_View___init__)))
    (l_View___init__ : K.lookup f_View___init__ = some ⟨oc_View___init__, od_View___init__, .func (PySem.W.fnOf "__init__" "View.__init__" (defArgs s_View___init__) (defBody s_View___init__) (defScope s_View___init__) .none kV_View___init__ dc_View___init__ pm_View___init__ an_View___init__ cd_View___init__ ct_View___init__), sl_View___init__⟩)
    (c_View___init__ : PySem.W.codeIn K cd_View___init__ "View.__init__" = true)
    (k_View___init__ : PySem.W.keepIn K (.ref f_View___init__) = true)
    (i_View___init__ : PySem.W.isFn K (.ref f_View___init__) = true)
    (pg_View : PySem.W.plainGet K Z_View Str.empty = true)
    (hd_View : PySem.W.hasDictIn K Z_View = true)
    (po_View : PySem.W.plainOver K Z_View = true)
    (sa_View : PySem.W.findIn K (.ref Z_View) "__setattr__" = some (some (.builtin "object.__setattr__")))
    (mk_View : PySem.W.makesIn K Z_View = true)
    (kc_View : PySem.W.keepIn K (.ref Z_View) = true)
    (n_View_rows : PySem.W.findIn K (.ref Z_View) "rows" = some none)
    (n_View_height : PySem.W.findIn K (.ref Z_View) "height" = some none)
    (n_View_width : PySem.W.findIn K (.ref Z_View) "width" = some none)
    (a_Game : PySem.W.nsIn K mainGlobals "Game" = some (some (.ref Z_Game)))
    (a_Game___init__ : PySem.W.findIn K (.ref Z_Game) "__init__" = some (some (.ref f_Game___init__)))
    (l_Game___init__ : K.lookup f_Game___init__ = some ⟨oc_Game___init__, od_Game___init__, .func (PySem.W.fnOf "__init__" "Game.__init__" (defArgs s_Game___init__) (defBody s_Game___init__) (defScope s_Game___init__) .none kV_Game___init__ dc_Game___init__ pm_Game___init__ an_Game___init__ cd_Game___init__ ct_Game___init__), sl_Game___init__⟩)
    (c_Game___init__ : PySem.W.codeIn K cd_Game___init__ "Game.__init__" = true)
    (k_Game___init__ : PySem.W.keepIn K (.ref f_Game___init__) = true)
    (i_Game___init__ : PySem.W.isFn K (.ref f_Game___init__) = true)
    (a_Game_view : PySem.W.findIn K (.ref Z_Game) "view" = some (some (.ref f_Game_view)))
    (l_Game_view : K.lookup f_Game_view = some ⟨oc_Game_view, od_Game_view, .func (PySem.W.fnOf "view" "Game.view" (defArgs s_Game_view) (defBody s_Game_view) (defScope s_Game_view) .none kV_Game_view dc_Game_view pm_Game_view an_Game_view cd_Game_view ct_Game_view), sl_Game_view⟩)
    (c_Game_view : PySem.W.codeIn K cd_Game_view "Game.view" = true)
    (k_Game_view : PySem.W.keepIn K (.ref f_Game_view) = true)
    (i_Game_view : PySem.W.isFn K (.ref f_Game_view) = true)
    (a_Game_state : PySem.W.findIn K (.ref Z_Game) "state" = some (some (.ref f_Game_state)))
    (l_Game_state : K.lookup f_Game_state = some ⟨oc_Game_state, od_Game_state, .func (PySem.W.fnOf "state" "Game.state" (defArgs s_Game_state) (defBody s_Game_state) (defScope s_Game_state) .none kV_Game_state dc_Game_state pm_Game_state an_Game_state cd_Game_state ct_Game_state), sl_Game_state⟩)
    (c_Game_state : PySem.W.codeIn K cd_Game_state "Game.state" = true)
    (k_Game_state : PySem.W.keepIn K (.ref f_Game_state) = true)
    (i_Game_state : PySem.W.isFn K (.ref f_Game_state) = true)
    (pg_Game : PySem.W.plainGet K Z_Game Str.empty = true)
    (hd_Game : PySem.W.hasDictIn K Z_Game = true)
    (po_Game : PySem.W.plainOver K Z_Game = true)
    (sa_Game : PySem.W.findIn K (.ref Z_Game) "__setattr__" = some (some (.builtin "object.__setattr__")))
    (mk_Game : PySem.W.makesIn K Z_Game = true)
    (kc_Game : PySem.W.keepIn K (.ref Z_Game) = true)
    (n_Game_field : PySem.W.findIn K (.ref Z_Game) "field" = some none)
    (n_Game_hidden : PySem.W.findIn K (.ref Z_Game) "hidden" = some none)
    (n_Game_figures : PySem.W.findIn K (.ref Z_Game) "figures" = some none)
    (n_Game_lost : PySem.W.findIn K (.ref Z_Game) "lost" = some none)
    (g_MOST_ROWS : PySem.W.nsIn K mainGlobals "MOST_ROWS" = some (some (.int 6 t_MOST_ROWS)))
    (g_MOST_COLUMNS : PySem.W.nsIn K mainGlobals "MOST_COLUMNS" = some (some (.int 6 t_MOST_COLUMNS)))
    (g_CLOSED_SIGN : PySem.W.nsIn K mainGlobals "CLOSED_SIGN" = some (some (.str "#" t_CLOSED_SIGN)))
    (g_SIGNS : PySem.W.nsIn K mainGlobals "SIGNS" = some (some (.str "#012345678" t_SIGNS)))
    (z_ValueError : PySem.W.nsIn K mainGlobals "ValueError" = some none)
    (z_all : PySem.W.nsIn K mainGlobals "all" = some none)
    (z_int : PySem.W.nsIn K mainGlobals "int" = some none)
    (z_isinstance : PySem.W.nsIn K mainGlobals "isinstance" = some none)
    (z_len : PySem.W.nsIn K mainGlobals "len" = some none)
    (z_list : PySem.W.nsIn K mainGlobals "list" = some none)
    (z_range : PySem.W.nsIn K mainGlobals "range" = some none)
    (z_sorted : PySem.W.nsIn K mainGlobals "sorted" = some none)
    (z_str : PySem.W.nsIn K mainGlobals "str" = some none)
    (q_bf : PySem.W.kitOne K (.ref Z_BadView) (.ref Z_FieldError) = some true)
    (q_bv : PySem.W.kitOne K (.ref Z_BadView) (.type "ValueError") = some true)
    (q_lf : PySem.W.kitOne K (.ref Z_BadLaying) (.ref Z_FieldError) = some true)
    (q_lv : PySem.W.kitOne K (.ref Z_BadLaying) (.type "ValueError") = some true)
    (q_lb : PySem.W.kitOne K (.ref Z_BadLaying) (.ref Z_BadView) = some false)
    (q_gg : PySem.W.kitOne K (.ref Z_Game) (.ref Z_Game) = some true)
    (a__law_cell_at : PySem.W.nsIn K mainGlobals "_law_cell_at" = some (some (.ref f__law_cell_at)))
    (l__law_cell_at : K.lookup f__law_cell_at = some ⟨oc__law_cell_at, od__law_cell_at, .func (PySem.W.fnOf "_law_cell_at" "_law_cell_at" (defArgs s__law_cell_at) (defBody s__law_cell_at) (defScope s__law_cell_at) .none kV__law_cell_at dc__law_cell_at pm__law_cell_at an__law_cell_at cd__law_cell_at ct__law_cell_at), sl__law_cell_at⟩)
    (c__law_cell_at : PySem.W.codeIn K cd__law_cell_at "_law_cell_at" = true)
    (k__law_cell_at : PySem.W.keepIn K (.ref f__law_cell_at) = true)
    (a__law_mix : PySem.W.nsIn K mainGlobals "_law_mix" = some (some (.ref f__law_mix)))
    (l__law_mix : K.lookup f__law_mix = some ⟨oc__law_mix, od__law_mix, .func (PySem.W.fnOf "_law_mix" "_law_mix" (defArgs s__law_mix) (defBody s__law_mix) (defScope s__law_mix) .none kV__law_mix dc__law_mix pm__law_mix an__law_mix cd__law_mix ct__law_mix), sl__law_mix⟩)
    (c__law_mix : PySem.W.codeIn K cd__law_mix "_law_mix" = true)
    (k__law_mix : PySem.W.keepIn K (.ref f__law_mix) = true)
    (a__law_field_by : PySem.W.nsIn K mainGlobals "_law_field_by" = some (some (.ref f__law_field_by)))
    (l__law_field_by : K.lookup f__law_field_by = some ⟨oc__law_field_by, od__law_field_by, .func (PySem.W.fnOf "_law_field_by" "_law_field_by" (defArgs s__law_field_by) (defBody s__law_field_by) (defScope s__law_field_by) .none kV__law_field_by dc__law_field_by pm__law_field_by an__law_field_by cd__law_field_by ct__law_field_by), sl__law_field_by⟩)
    (c__law_field_by : PySem.W.codeIn K cd__law_field_by "_law_field_by" = true)
    (k__law_field_by : PySem.W.keepIn K (.ref f__law_field_by) = true)
    (a_is_row : PySem.W.nsIn K mainGlobals "is_row" = some (some (.ref f_is_row)))
    (l_is_row : K.lookup f_is_row = some ⟨oc_is_row, od_is_row, .func (PySem.W.fnOf "is_row" "is_row" (defArgs s_is_row) (defBody s_is_row) (defScope s_is_row) .none kV_is_row dc_is_row pm_is_row an_is_row cd_is_row ct_is_row), sl_is_row⟩)
    (c_is_row : PySem.W.codeIn K cd_is_row "is_row" = true)
    (k_is_row : PySem.W.keepIn K (.ref f_is_row) = true)
    (a_is_size : PySem.W.nsIn K mainGlobals "is_size" = some (some (.ref f_is_size)))
    (l_is_size : K.lookup f_is_size = some ⟨oc_is_size, od_is_size, .func (PySem.W.fnOf "is_size" "is_size" (defArgs s_is_size) (defBody s_is_size) (defScope s_is_size) .none kV_is_size dc_is_size pm_is_size an_is_size cd_is_size ct_is_size), sl_is_size⟩)
    (c_is_size : PySem.W.codeIn K cd_is_size "is_size" = true)
    (k_is_size : PySem.W.keepIn K (.ref f_is_size) = true)
    (a_is_view : PySem.W.nsIn K mainGlobals "is_view" = some (some (.ref f_is_view)))
    (l_is_view : K.lookup f_is_view = some ⟨oc_is_view, od_is_view, .func (PySem.W.fnOf "is_view" "is_view" (defArgs s_is_view) (defBody s_is_view) (defScope s_is_view) .none kV_is_view dc_is_view pm_is_view an_is_view cd_is_view ct_is_view), sl_is_view⟩)
    (c_is_view : PySem.W.codeIn K cd_is_view "is_view" = true)
    (k_is_view : PySem.W.keepIn K (.ref f_is_view) = true)
    (a_has_cell : PySem.W.nsIn K mainGlobals "has_cell" = some (some (.ref f_has_cell)))
    (l_has_cell : K.lookup f_has_cell = some ⟨oc_has_cell, od_has_cell, .func (PySem.W.fnOf "has_cell" "has_cell" (defArgs s_has_cell) (defBody s_has_cell) (defScope s_has_cell) .none kV_has_cell dc_has_cell pm_has_cell an_has_cell cd_has_cell ct_has_cell), sl_has_cell⟩)
    (c_has_cell : PySem.W.codeIn K cd_has_cell "has_cell" = true)
    (k_has_cell : PySem.W.keepIn K (.ref f_has_cell) = true)
    (a_is_closed : PySem.W.nsIn K mainGlobals "is_closed" = some (some (.ref f_is_closed)))
    (l_is_closed : K.lookup f_is_closed = some ⟨oc_is_closed, od_is_closed, .func (PySem.W.fnOf "is_closed" "is_closed" (defArgs s_is_closed) (defBody s_is_closed) (defScope s_is_closed) .none kV_is_closed dc_is_closed pm_is_closed an_is_closed cd_is_closed ct_is_closed), sl_is_closed⟩)
    (c_is_closed : PySem.W.codeIn K cd_is_closed "is_closed" = true)
    (k_is_closed : PySem.W.keepIn K (.ref f_is_closed) = true)
    (a_is_laying : PySem.W.nsIn K mainGlobals "is_laying" = some (some (.ref f_is_laying)))
    (l_is_laying : K.lookup f_is_laying = some ⟨oc_is_laying, od_is_laying, .func (PySem.W.fnOf "is_laying" "is_laying" (defArgs s_is_laying) (defBody s_is_laying) (defScope s_is_laying) .none kV_is_laying dc_is_laying pm_is_laying an_is_laying cd_is_laying ct_is_laying), sl_is_laying⟩)
    (c_is_laying : PySem.W.codeIn K cd_is_laying "is_laying" = true)
    (k_is_laying : PySem.W.keepIn K (.ref f_is_laying) = true)
    (a__law_hurt : PySem.W.nsIn K mainGlobals "_law_hurt" = some (some (.ref f__law_hurt)))
    (l__law_hurt : K.lookup f__law_hurt = some ⟨oc__law_hurt, od__law_hurt, .func (PySem.W.fnOf "_law_hurt" "_law_hurt" (defArgs s__law_hurt) (defBody s__law_hurt) (defScope s__law_hurt) .none kV__law_hurt dc__law_hurt pm__law_hurt an__law_hurt cd__law_hurt ct__law_hurt), sl__law_hurt⟩)
    (c__law_hurt : PySem.W.codeIn K cd__law_hurt "_law_hurt" = true)
    (k__law_hurt : PySem.W.keepIn K (.ref f__law_hurt) = true)
    (a__law_met : PySem.W.nsIn K mainGlobals "_law_met" = some (some (.ref f__law_met)))
    (l__law_met : K.lookup f__law_met = some ⟨oc__law_met, od__law_met, .func (PySem.W.fnOf "_law_met" "_law_met" (defArgs s__law_met) (defBody s__law_met) (defScope s__law_met) .none kV__law_met dc__law_met pm__law_met an__law_met cd__law_met ct__law_met), sl__law_met⟩)
    (c__law_met : PySem.W.codeIn K cd__law_met "_law_met" = true)
    (k__law_met : PySem.W.keepIn K (.ref f__law_met) = true)
    (a_law : PySem.W.nsIn K mainGlobals "law" = some (some (.ref f_law)))
    (l_law : K.lookup f_law = some ⟨oc_law, od_law, .func (PySem.W.fnOf "law" "law" (defArgs s_law) (defBody s_law) (defScope s_law) .none kV_law dc_law pm_law an_law cd_law ct_law), sl_law⟩)
    (c_law : PySem.W.codeIn K cd_law "law" = true)
    (k_law : PySem.W.keepIn K (.ref f_law) = true) :
    ∃ fd : FuncData, (∀ (s : Shared) (v : Value), BindsTo s fd ⟨[v], []⟩ [("script", v)]) ∧ ∀ base : Heap, K.In base → base.Ns mainGlobals mg → FnOk l.prog w K mg base (CXE l.prog w) 8 fa fd ["script"] (spLaw K) := by
  have e := hfa.symm.trans (PySem.W.mg_of X G a_law)
  cases e
  have F_View___init__ := fun_mk (st := s_View___init__) l_View___init__ c_View___init__ k_View___init__
  have b_View___init__ := F_View___init__.binds (ps := ["self", "rows"]) fun _ _ _ _ _ _ us hl => match us, hl with | [_, _], _ => rfl
  have F_Game___init__ := fun_mk (st := s_Game___init__) l_Game___init__ c_Game___init__ k_Game___init__
  have b_Game___init__ := F_Game___init__.binds (ps := ["self", "height", "width", "stones"]) fun _ _ _ _ _ _ us hl => match us, hl with | [_, _, _, _], _ => rfl
  have F_Game_view := fun_mk (st := s_Game_view) l_Game_view c_Game_view k_Game_view
  have b_Game_view := F_Game_view.binds (ps := ["self"]) fun _ _ _ _ _ _ us hl => match us, hl with | [_], _ => rfl
  have F_Game_state := fun_mk (st := s_Game_state) l_Game_state c_Game_state k_Game_state
  have b_Game_state := F_Game_state.binds (ps := ["self"]) fun _ _ _ _ _ _ us hl => match us, hl with | [_], _ => rfl
  have F__law_cell_at := fun_mk (st := s__law_cell_at) l__law_cell_at c__law_cell_at k__law_cell_at
  have b__law_cell_at := F__law_cell_at.binds (ps := ["script", "k"]) fun _ _ _ _ _ _ us hl => match us, hl with | [_, _], _ => rfl
  have F__law_mix := fun_mk (st := s__law_mix) l__law_mix c__law_mix k__law_mix
  have b__law_mix := F__law_mix.binds (ps := ["cell", "k", "many"]) fun _ _ _ _ _ _ us hl => match us, hl with | [_, _, _], _ => rfl
  have F__law_field_by := fun_mk (st := s__law_field_by) l__law_field_by c__law_field_by k__law_field_by
  have b__law_field_by := F__law_field_by.binds (ps := ["script", "most"]) fun _ _ _ _ _ _ us hl => match us, hl with | [_, _], _ => rfl
  have F_is_row := fun_mk (st := s_is_row) l_is_row c_is_row k_is_row
  have b_is_row := F_is_row.binds (ps := ["row", "width"]) fun _ _ _ _ _ _ us hl => match us, hl with | [_, _], _ => rfl
  have F_is_size := fun_mk (st := s_is_size) l_is_size c_is_size k_is_size
  have b_is_size := F_is_size.binds (ps := ["height", "width"]) fun _ _ _ _ _ _ us hl => match us, hl with | [_, _], _ => rfl
  have F_is_view := fun_mk (st := s_is_view) l_is_view c_is_view k_is_view
  have b_is_view := F_is_view.binds (ps := ["rows"]) fun _ _ _ _ _ _ us hl => match us, hl with | [_], _ => rfl
  have F_has_cell := fun_mk (st := s_has_cell) l_has_cell c_has_cell k_has_cell
  have b_has_cell := F_has_cell.binds (ps := ["view", "cell"]) fun _ _ _ _ _ _ us hl => match us, hl with | [_, _], _ => rfl
  have F_is_closed := fun_mk (st := s_is_closed) l_is_closed c_is_closed k_is_closed
  have b_is_closed := F_is_closed.binds (ps := ["view", "cell"]) fun _ _ _ _ _ _ us hl => match us, hl with | [_, _], _ => rfl
  have F_is_laying := fun_mk (st := s_is_laying) l_is_laying c_is_laying k_is_laying
  have b_is_laying := F_is_laying.binds (ps := ["view", "laying"]) fun _ _ _ _ _ _ us hl => match us, hl with | [_, _], _ => rfl
  have F__law_hurt := fun_mk (st := s__law_hurt) l__law_hurt c__law_hurt k__law_hurt
  have b__law_hurt := F__law_hurt.binds (ps := ["height", "width", "stones", "cell"]) fun _ _ _ _ _ _ us hl => match us, hl with | [_, _, _, _], _ => rfl
  have F__law_met := fun_mk (st := s__law_met) l__law_met c__law_met k__law_met
  have b__law_met := F__law_met.binds (ps := ["height", "width", "stones"]) fun _ _ _ _ _ _ us hl => match us, hl with | [_, _, _], _ => rfl
  have F_law := fun_mk (st := s_law) l_law c_law k_law
  have b_law := F_law.binds (ps := ["script"]) fun _ _ _ _ _ _ us hl => match us, hl with | [_], _ => rfl
  have T : Txt K mg ⟨Z_FieldError, Z_BadView, Z_BadLaying, Z_View, Z_Game⟩ := { b_ValueError := PySem.W.mg_none_of X G z_ValueError, b_all := PySem.W.mg_none_of X G z_all, b_int := PySem.W.mg_none_of X G z_int, b_isinstance := PySem.W.mg_none_of X G z_isinstance, b_len := PySem.W.mg_none_of X G z_len, b_list := PySem.W.mg_none_of X G z_list, b_range := PySem.W.mg_none_of X G z_range, b_sorted := PySem.W.mg_none_of X G z_sorted, b_str := PySem.W.mg_none_of X G z_str, g_MOST_ROWS := ⟨_, PySem.W.mg_of X G g_MOST_ROWS⟩, g_MOST_COLUMNS := ⟨_, PySem.W.mg_of X G g_MOST_COLUMNS⟩, g_CLOSED_SIGN := ⟨_, PySem.W.mg_of X G g_CLOSED_SIGN⟩, g_SIGNS := ⟨_, PySem.W.mg_of X G g_SIGNS⟩, c_FieldError := PySem.W.mg_of X G a_FieldError, x_FieldError := ⟨x_FieldError⟩, c_BadView := PySem.W.mg_of X G a_BadView, x_BadView := ⟨x_BadView⟩, c_BadLaying := PySem.W.mg_of X G a_BadLaying, x_BadLaying := ⟨x_BadLaying⟩, c_View := PySem.W.mg_of X G a_View, cl_View := ⟨pg_View, hd_View, po_View, sa_View⟩, n_View_rows := n_View_rows, n_View_height := n_View_height, n_View_width := n_View_width, c_Game := PySem.W.mg_of X G a_Game, cl_Game := ⟨pg_Game, hd_Game, po_Game, sa_Game⟩, n_Game_field := n_Game_field, n_Game_hidden := n_Game_hidden, n_Game_figures := n_Game_figures, n_Game_lost := n_Game_lost, q_bf := q_bf, q_bv := q_bv, q_lf := q_lf, q_lv := q_lv, q_lb := q_lb, q_gg := q_gg }
  refine ⟨PySem.W.fnOf "law" "law" (defArgs s_law) (defBody s_law) (defScope s_law) .none kV_law dc_law pm_law an_law cd_law ct_law, fun s v => .of_eq rfl, fun base _ _ => ?_⟩
  have D__law_cell_at : Df l.prog w K mg base 1 "_law_cell_at" ["script", "k"] (spCell K) := ⟨⟨f__law_cell_at, _, ok_cell F__law_cell_at T, PySem.W.mg_of X G a__law_cell_at, k__law_cell_at, b__law_cell_at⟩⟩
  have D__law_mix : Df l.prog w K mg base 1 "_law_mix" ["cell", "k", "many"] (spMix) := ⟨⟨f__law_mix, _, ok_mix F__law_mix T, PySem.W.mg_of X G a__law_mix, k__law_mix, b__law_mix⟩⟩
  have D__law_field_by : Df l.prog w K mg base 2 "_law_field_by" ["script", "most"] (spField K) := ⟨⟨f__law_field_by, _, ok_field F__law_field_by T D__law_cell_at D__law_mix, PySem.W.mg_of X G a__law_field_by, k__law_field_by, b__law_field_by⟩⟩
  have D_is_row : Df l.prog w K mg base 1 "is_row" ["row", "width"] (spRow) := ⟨⟨f_is_row, _, ok_row F_is_row T, PySem.W.mg_of X G a_is_row, k_is_row, b_is_row⟩⟩
  have D_is_size : Df l.prog w K mg base 1 "is_size" ["height", "width"] (spSize) := ⟨⟨f_is_size, _, ok_size F_is_size T, PySem.W.mg_of X G a_is_size, k_is_size, b_is_size⟩⟩
  have D_is_view : Df l.prog w K mg base 2 "is_view" ["rows"] (spView K) := ⟨⟨f_is_view, _, ok_view F_is_view T D_is_row D_is_size, PySem.W.mg_of X G a_is_view, k_is_view, b_is_view⟩⟩
  have M_View : Md l.prog w K mg base 3 "View" ["self", "rows"] Z_View (spInit K Z_View Z_BadView) := ⟨⟨f_View___init__, _, ⟨mk_View, a_View___init__, i_View___init__, kc_View⟩, ok_init F_View___init__ T D_is_view, PySem.W.mg_of X G a_View, b_View___init__⟩⟩
  have D_has_cell : Df l.prog w K mg base 1 "has_cell" ["view", "cell"] (spHas K Z_View) := ⟨⟨f_has_cell, _, ok_has F_has_cell T, PySem.W.mg_of X G a_has_cell, k_has_cell, b_has_cell⟩⟩
  have D_is_closed : Df l.prog w K mg base 2 "is_closed" ["view", "cell"] (spIsClosed K Z_View) := ⟨⟨f_is_closed, _, ok_isclosed F_is_closed T D_has_cell, PySem.W.mg_of X G a_is_closed, k_is_closed, b_is_closed⟩⟩
  have D_is_laying : Df l.prog w K mg base 3 "is_laying" ["view", "laying"] (spLaying K Z_View) := ⟨⟨f_is_laying, _, ok_islaying F_is_laying T D_is_closed, PySem.W.mg_of X G a_is_laying, k_is_laying, b_is_laying⟩⟩
  have M_Game : Md l.prog w K mg base 5 "Game" ["self", "height", "width", "stones"] Z_Game (spGInit K Z_Game Z_View Z_BadView Z_BadLaying) := ⟨⟨f_Game___init__, _, ⟨mk_Game, a_Game___init__, i_Game___init__, kc_Game⟩, ok_ginit F_Game___init__ T D_is_size M_View D_is_laying, PySem.W.mg_of X G a_Game, b_Game___init__⟩⟩
  have N_Game_state : Mth l.prog w K mg base 1 Z_Game "state" ["self"] (spGState K Z_Game Z_View) := ⟨⟨f_Game_state, _, ⟨a_Game_state, i_Game_state, k_Game_state⟩, ok_gstate F_Game_state T, b_Game_state⟩, ⟨pg_Game, hd_Game, po_Game, sa_Game⟩⟩
  have N_Game_view : Mth l.prog w K mg base 5 Z_Game "view" ["self"] (spGView K Z_Game Z_View) := ⟨⟨f_Game_view, _, ⟨a_Game_view, i_Game_view, k_Game_view⟩, ok_gview F_Game_view T M_View, b_Game_view⟩, ⟨pg_Game, hd_Game, po_Game, sa_Game⟩⟩
  have D__law_hurt : Df l.prog w K mg base 1 "_law_hurt" ["height", "width", "stones", "cell"] (spHurtG K) := ⟨⟨f__law_hurt, _, ok_hurtg F__law_hurt T, PySem.W.mg_of X G a__law_hurt, k__law_hurt, b__law_hurt⟩⟩
  have D__law_met : Df l.prog w K mg base 7 "_law_met" ["height", "width", "stones"] (spMetG K Z_Game Z_View) := ⟨⟨f__law_met, _, ok_metg F__law_met T M_Game, PySem.W.mg_of X G a__law_met, k__law_met, b__law_met⟩⟩
  exact ok_law F_law T D__law_cell_at D__law_field_by D__law_hurt D__law_met N_Game_view N_Game_state
theorem walk {l : PySem.W.OpenLaw} {q : Program} {loose : List Str} {XP : (Str → Option Value) → Heap → Prop} {YP : World → Heap → Prop} {d : DefRec} {K : Params → PySem.W.Frag} (hn : l.most = some 63) (hdf : d.params.defaults = [])
    (hY : ∀ (w : World) (h : Heap), YP w h → (K w.params).In h)
    (F : ∀ (w : World) (mg : Str → Option Value) (fa : Addr) (h : Heap), (K w.params).In h → h.Ns mainGlobals mg → mg d.name = some (.ref fa) →
      ∃ fd : FuncData, (∀ (s : Shared) (u : Value), BindsTo s fd ⟨[u], []⟩ [("script", u)]) ∧ ∀ base : Heap, (K w.params).In base → base.Ns mainGlobals mg → FnOk l.prog w (K w.params) mg base (CXE l.prog w) 8 fa fd ["script"] (spLaw (K w.params))) :
    PySem.W.WalkO q loose XP YP l.row.toRowW d [] (fun f vs => PySem.call f vs) :=
  L2.walk_of (n := 63) (k := 8) (x := "script") (CX := fun w => CXE l.prog w) (sp := fun w => spLaw (K w.params)) hn (by decide) hdf ⟨rfl, by decide, by decide⟩ hY F (fun _ _ a ns hl _ hS => ⟨a, ns, rfl, hS, fun _ => rfl⟩) fun _ _ _ _ _ z => by
    obtain ⟨_, _, _, _, _, _, _, _, _, z⟩ := z
    exact z
end My
open PySem PySem.W PyProof.Rows
set_option maxRecDepth 100000 in
set_option maxHeartbeats 0 in
theorem PySem.Challenge.cw_dampfield_k16_games_refused_holds : PySem.Challenge.rw_dampfield_k16_games_refused.Holds := by
  w_on; o_law; k_head; (case hw => w_witness2)
  k_fill
  refine My.walk (l := PySem.Challenge.rw_dampfield_k16_games_refused) rfl rfl (fun w h Y => PySem.W.kIn_of Y) ?F
  case F =>
    intro w mg fa h KX G hmg
    refine' My.all_mk KX G hmg ?a_FieldError ?x_FieldError ?a_BadView ?x_BadView ?a_BadLaying ?x_BadLaying ?a_View ?a_View___init__ ?l_View___init__ ?c_View___init__ ?k_View___init__ ?i_View___init__ ?pg_View ?hd_View ?po_View ?sa_View ?mk_View ?kc_View ?n_View_rows ?n_View_height ?n_View_width ?a_Game ?a_Game___init__ ?l_Game___init__ ?c_Game___init__ ?k_Game___init__ ?i_Game___init__ ?a_Game_view ?l_Game_view ?c_Game_view ?k_Game_view ?i_Game_view ?a_Game_state ?l_Game_state ?c_Game_state ?k_Game_state ?i_Game_state ?pg_Game ?hd_Game ?po_Game ?sa_Game ?mk_Game ?kc_Game ?n_Game_field ?n_Game_hidden ?n_Game_figures ?n_Game_lost ?g_MOST_ROWS ?g_MOST_COLUMNS ?g_CLOSED_SIGN ?g_SIGNS ?z_ValueError ?z_all ?z_int ?z_isinstance ?z_len ?z_list ?z_range ?z_sorted ?z_str ?q_bf ?q_bv ?q_lf ?q_lv ?q_lb ?q_gg ?a__law_cell_at ?l__law_cell_at ?c__law_cell_at ?k__law_cell_at ?a__law_mix ?l__law_mix ?c__law_mix ?k__law_mix ?a__law_field_by ?l__law_field_by ?c__law_field_by ?k__law_field_by ?a_is_row ?l_is_row ?c_is_row ?k_is_row ?a_is_size ?l_is_size ?c_is_size ?k_is_size ?a_is_view ?l_is_view ?c_is_view ?k_is_view ?a_has_cell ?l_has_cell ?c_has_cell ?k_has_cell ?a_is_closed ?l_is_closed ?c_is_closed ?k_is_closed ?a_is_laying ?l_is_laying ?c_is_laying ?k_is_laying ?a__law_hurt ?l__law_hurt ?c__law_hurt ?k__law_hurt ?a__law_met ?l__law_met ?c__law_met ?k__law_met ?a_law ?l_law ?c_law ?k_law
    (case a_FieldError => k_is)
    (case x_FieldError => k_exc)
    (case a_BadView => k_is)
    (case x_BadView => k_exc)
    (case a_BadLaying => k_is)
    (case x_BadLaying => k_exc)
    (case a_View => k_is)
    (case a_View___init__ => k_is)
    (case l_View___init__ => k_is)
    (case c_View___init__ => k_is)
    (case k_View___init__ => k_is)
    (case i_View___init__ => k_is)
    (case pg_View => k_is)
    (case hd_View => k_is)
    (case po_View => k_is)
    (case sa_View => k_is)
    (case mk_View => k_is)
    (case kc_View => k_is)
    (case n_View_rows => k_is)
    (case n_View_height => k_is)
    (case n_View_width => k_is)
    (case a_Game => k_is)
    (case a_Game___init__ => k_is)
    (case l_Game___init__ => k_is)
    (case c_Game___init__ => k_is)
    (case k_Game___init__ => k_is)
    (case i_Game___init__ => k_is)
    (case a_Game_view => k_is)
    (case l_Game_view => k_is)
    (case c_Game_view => k_is)
    (case k_Game_view => k_is)
    (case i_Game_view => k_is)
    (case a_Game_state => k_is)
    (case l_Game_state => k_is)
    (case c_Game_state => k_is)
    (case k_Game_state => k_is)
    (case i_Game_state => k_is)
    (case pg_Game => k_is)
    (case hd_Game => k_is)
    (case po_Game => k_is)
    (case sa_Game => k_is)
    (case mk_Game => k_is)
    (case kc_Game => k_is)
    (case n_Game_field => k_is)
    (case n_Game_hidden => k_is)
    (case n_Game_figures => k_is)
    (case n_Game_lost => k_is)
    (case g_MOST_ROWS => k_is)
    (case g_MOST_COLUMNS => k_is)
    (case g_CLOSED_SIGN => k_is)
    (case g_SIGNS => k_is)
    (case z_ValueError => k_is)
    (case z_all => k_is)
    (case z_int => k_is)
    (case z_isinstance => k_is)
    (case z_len => k_is)
    (case z_list => k_is)
    (case z_range => k_is)
    (case z_sorted => k_is)
    (case z_str => k_is)
    (case q_bf => kit_is)
    (case q_bv => kit_is)
    (case q_lf => kit_is)
    (case q_lv => kit_is)
    (case q_lb => kit_is)
    (case q_gg => kit_is)
    (case a__law_cell_at => k_is)
    (case l__law_cell_at => k_is)
    (case c__law_cell_at => k_is)
    (case k__law_cell_at => k_is)
    (case a__law_mix => k_is)
    (case l__law_mix => k_is)
    (case c__law_mix => k_is)
    (case k__law_mix => k_is)
    (case a__law_field_by => k_is)
    (case l__law_field_by => k_is)
    (case c__law_field_by => k_is)
    (case k__law_field_by => k_is)
    (case a_is_row => k_is)
    (case l_is_row => k_is)
    (case c_is_row => k_is)
    (case k_is_row => k_is)
    (case a_is_size => k_is)
    (case l_is_size => k_is)
    (case c_is_size => k_is)
    (case k_is_size => k_is)
    (case a_is_view => k_is)
    (case l_is_view => k_is)
    (case c_is_view => k_is)
    (case k_is_view => k_is)
    (case a_has_cell => k_is)
    (case l_has_cell => k_is)
    (case c_has_cell => k_is)
    (case k_has_cell => k_is)
    (case a_is_closed => k_is)
    (case l_is_closed => k_is)
    (case c_is_closed => k_is)
    (case k_is_closed => k_is)
    (case a_is_laying => k_is)
    (case l_is_laying => k_is)
    (case c_is_laying => k_is)
    (case k_is_laying => k_is)
    (case a__law_hurt => k_is)
    (case l__law_hurt => k_is)
    (case c__law_hurt => k_is)
    (case k__law_hurt => k_is)
    (case a__law_met => k_is)
    (case l__law_met => k_is)
    (case c__law_met => k_is)
    (case k__law_met => k_is)
    (case a_law => k_is)
    (case l_law => k_is)
    (case c_law => k_is)
    (case k_law => k_is)
