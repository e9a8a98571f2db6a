import PyProof.Rows.All
import Wide.All
import OpenK.AllK
import Wide.FinOn
import Lean
import PyProof.EqAt
import PyProof.EqKinds
import PyProof.TupleCall
import PySem.Challenge.RW_dampfield_k11_whole_any_order
set_option Elab.async false
set_option linter.all false
set_option maxRecDepth 100000
namespace L2
open PySem PySem.Spec PyProof.Rows
abbrev Key := Sum Int Str
def keyIs : Key → Value → Bool
  | .inl k, v => Value.isInt k v
  | .inr x, v => Value.isStrOf x v
def keyH (w : World) : Key → Int
  | .inl k => hashInt k
  | .inr x => hashStr w x
theorem keyIs_shape : ∀ {k : Key} {v : Value}, keyIs k v = true → (∃ i t, k = Sum.inl i ∧ v = Value.int i t) ∨ (∃ x t, k = Sum.inr x ∧ v = Value.str x t)
  | .inl i, v, h => by
    obtain ⟨t, e⟩ := Value.isInt_shape (k := i) (v := v) h
    exact .inl ⟨i, t, rfl, e⟩
  | .inr x, v, h => by
    obtain ⟨t, e⟩ := Value.isStrOf_shape (x := x) (v := v) h
    exact .inr ⟨x, t, rfl, e⟩
theorem keyIs_int (i : Int) (t : Tok) : keyIs (.inl i) (.int i t) = true := by simp [keyIs, Value.isInt]
theorem keyIs_str (x : Str) (t : Tok) : keyIs (.inr x) (.str x t) = true := by simp [keyIs, Value.isStrOf]
theorem key_ll (a b : Int) : decide ((Sum.inl a : Key) = Sum.inl b) = (a == b) := by
  by_cases e : a = b
  · subst e; simp
  · have h : ¬ (Sum.inl a : Key) = Sum.inl b := fun q => e (Sum.inl.inj q)
    rw [decide_eq_false h]
    exact (beq_eq_false_iff_ne.mpr e).symm
theorem key_rr (a b : Str) : decide ((Sum.inr a : Key) = Sum.inr b) = decide (a = b) := by
  by_cases e : a = b
  · subst e; simp
  · have h : ¬ (Sum.inr a : Key) = Sum.inr b := fun q => e (Sum.inr.inj q)
    rw [decide_eq_false h, decide_eq_false e]
theorem key_lr (a : Int) (b : Str) : decide ((Sum.inl a : Key) = Sum.inr b) = false := decide_eq_false (fun q => nomatch q)
theorem key_rl (a : Str) (b : Int) : decide ((Sum.inr a : Key) = Sum.inl b) = false := decide_eq_false (fun q => nomatch q)
def mixKind (prog : Program) (w : World) : PySem.KeyKind prog w Key where
  is := keyIs
  hash := keyH w
  inj := fun v a b ha hb => by
    rcases keyIs_shape ha with ⟨i, t, rfl, rfl⟩ | ⟨x, t, rfl, rfl⟩
    · rcases keyIs_shape hb with ⟨j, u, rfl, e⟩ | ⟨y, u, rfl, e⟩
      · injection e with e1 _; rw [e1]
      · exact nomatch e
    · rcases keyIs_shape hb with ⟨j, u, rfl, e⟩ | ⟨y, u, rfl, e⟩
      · exact nomatch e
      · injection e with e1 _; rw [e1]
  byValue := fun k v h => by
    rcases keyIs_shape h with ⟨i, t, rfl, rfl⟩ | ⟨x, t, rfl, rfl⟩ <;> rfl
  pyHash := fun hv h => by
    rcases keyIs_shape hv with ⟨i, t, rfl, rfl⟩ | ⟨x, t, rfl, rfl⟩
    · exact wpAny_pyHash_int h
    · exact wpAny_pyHash_str h
  eqBool := fun hu hv h => by
    rcases keyIs_shape hu with ⟨i, t, rfl, rfl⟩ | ⟨x, t, rfl, rfl⟩
    · rcases keyIs_shape hv with ⟨j, u, rfl, rfl⟩ | ⟨y, u, rfl, rfl⟩
      · rw [key_ll] at h; exact wpAny_eqBool_int h
      · rw [key_lr] at h; exact SeqAt.EqAt.int_str i t y u _ _ _ _ h
    · rcases keyIs_shape hv with ⟨j, u, rfl, rfl⟩ | ⟨y, u, rfl, rfl⟩
      · rw [key_rl] at h; exact SeqAt.EqAt.str_int x t j u _ _ _ _ h
      · rw [key_rr] at h; exact wpAny_eqBool_str h
  «strs» := fun k x t v h => by
    rcases keyIs_shape h with ⟨i, u, rfl, e⟩ | ⟨y, u, rfl, e⟩
    · exact nomatch e
    · injection e with e1 _
      subst e1
      cases v <;> rfl
theorem mixKind_int (prog : Program) (w : World) (i : Int) (t : Tok) : (mixKind prog w).is (.inl i) (.int i t) = true := keyIs_int i t
theorem mixKind_str (prog : Program) (w : World) (x : Str) (t : Tok) : (mixKind prog w).is (.inr x) (.str x t) = true := keyIs_str x t
end L2
namespace L2
open PySem PySem.Spec PyProof.Rows
inductive V where
  | non | bl (b : Bool) | int (i : Int) | str (x : Str) | byt (b : Array UInt8) | flt (b : UInt64) | ref (a : Addr) | ty (n : String)
  deriving DecidableEq
def RelV : V → Value → Prop
  | .non, u => u = Value.none
  | .bl b, u => u = Value.bool b
  | .int i, u => ∃ t, u = Value.int i t
  | .str x, u => ∃ t, u = Value.str x t
  | .byt b, u => ∃ t, u = Value.bytes b t
  | .flt b, u => ∃ t, u = Value.float b t
  | .ref a, u => u = Value.ref a
  | .ty n, u => u = Value.type n
abbrev Vals : List V → List Value → Prop := Paired RelV
theorem Vals.length {xs : List V} {us : List Value} (r : Vals xs us) : xs.length = us.length := Paired.length r
theorem Vals.get : ∀ {xs : List V} {us : List Value} {i : Nat} {x : V}, Vals xs us → xs[i]? = some x → ∃ u, us[i]? = some u ∧ RelV x u
  | _, _, _, _, .nil, e => by simp at e
  | _, _, 0, _, .cons r _, e => by simp at e; subst e; exact ⟨_, rfl, r⟩
  | _, _, i + 1, x, .cons _ t, e => by
    obtain ⟨u, h1, h2⟩ := Vals.get (i := i) (x := x) t (by simpa using e)
    exact ⟨u, by simpa using h1, h2⟩
theorem Vals.set {x : V} {u : Value} (r : RelV x u) : ∀ {xs : List V} {us : List Value} (i : Nat), Vals xs us → Vals (xs.set i x) (us.set i u)
  | _, _, _, .nil => .nil
  | _, _, 0, .cons _ t => .cons r t
  | _, _, i + 1, .cons q t => .cons q (Vals.set r i t)
theorem Vals.append : ∀ {xs ys : List V} {us ws : List Value}, Vals xs us → Vals ys ws → Vals (xs ++ ys) (us ++ ws)
  | _, _, _, _, .nil, s => s
  | _, _, _, _, .cons r t, s => .cons r (Vals.append t s)
theorem Vals.take : ∀ {xs : List V} {us : List Value} (n : Nat), Vals xs us → Vals (xs.take n) (us.take n)
  | _, _, 0, _ => .nil
  | _, _, _ + 1, .nil => .nil
  | _, _, n + 1, .cons r t => .cons r (Vals.take n t)
theorem Vals.drop : ∀ {xs : List V} {us : List Value} (n : Nat), Vals xs us → Vals (xs.drop n) (us.drop n)
  | _, _, 0, r => r
  | _, _, _ + 1, .nil => .nil
  | _, _, n + 1, .cons _ t => Vals.drop n t
theorem Vals.none_of : ∀ {xs : List V} {us : List Value} {i : Nat}, Vals xs us → xs[i]? = none → us[i]? = none := fun {xs us i} r e => by
  have h1 := r.length
  have h2 : xs.length ≤ i := List.getElem?_eq_none_iff.mp e
  exact List.getElem?_eq_none_iff.mpr (by omega)
def RelO : Option V → Option Value → Prop
  | some v, some u => RelV v u
  | none, none => True
  | _, _ => False
def KV {κ : Type} : List (κ × V) → List (κ × Value) → Prop := Paired fun (p : κ × V) (q : κ × Value) => p.1 = q.1 ∧ RelV p.2 q.2
def kV : Key → V
  | .inl i => .int i
  | .inr x => .str x
inductive HO where
  | lst (xs : List V)
  | tup (xs : List V)
  | dK (kvs : List (Key × V)) | dT (kvs : List (List Key × V))
  | set (S : Int → Bool) (n : Nat)
  | ins (C dx : Addr) (fs : List (Str × V))
  | own (x : Addr)
  | xd (fs : List (Str × V))
  | met (f x : Addr)
  | rng (lo hi : Int)
  | frz (o : Obj) (u : HO)
  | tbl (ps : Array Value)
  | ext (φ : Heap → Prop)
abbrev Hp := Addr → Option HO
def upd (H : Hp) (a : Addr) (o : HO) : Hp := fun b => if b = a then some o else H b
theorem upd_same {H : Hp} {a : Addr} {o : HO} : upd H a o a = some o := by unfold upd; rw [if_pos rfl]
theorem upd_ne {H : Hp} {a b : Addr} {o : HO} (h : b ≠ a) : upd H a o b = H b := by unfold upd; rw [if_neg h]
theorem ne_of {H : Hp} {a b : Addr} {o u : HO} (h : H a = some o) (h' : H b = some u) (d : o ≠ u) : a ≠ b := by
  intro e; subst e; rw [h] at h'; exact d (Option.some.inj h')
theorem ne_of_none {H : Hp} {a b : Addr} {o : HO} (h : H a = some o) (h' : H b = none) : a ≠ b := by
  intro e; subst e; rw [h] at h'; cases h'
section
variable (P : Program) (w : World)
def ObjOk (H : Hp) (h : Heap) (a : Addr) : HO → Prop
  | .lst xs => xs.length ≤ sizeLine ∧ ∃ (its : List Value) (n : Nat), Vals xs its ∧ h.get? a = some { cls := .type "list", data := .seq its.toArray n }
  | .tup xs => xs.length ≤ sizeLine ∧ ∃ its : List Value, Vals xs its ∧ IsTup h a its.toArray
  | .dK kvs => kvs.length ≤ sizeLine ∧ (a == sysModules) = false ∧ ∃ vs, KV kvs vs ∧ h.DictOf (mixKind P w) a vs
  | .dT kvs => kvs.length ≤ sizeLine ∧ (a == sysModules) = false ∧ ∃ xs : List (List Key × Addr × Value),
      Paired (fun (p : List Key × V) (q : List Key × Addr × Value) => p.1 = q.1 ∧ H q.2.1 = some (.tup (p.1.map kV)) ∧ RelV p.2 q.2.2) kvs xs ∧
      ∃ o es ep, h.get? a = some o ∧ o.ExactDict ∧ o.data = .dict es ep ∧ es.toList = xs.map (entryOfKey (tupleKind (mixKind P w))) ∧ (xs.map (·.1)).Nodup
  | .set S n => h.SetOf (intKind P w) a S n
  | .ins C dx fs => H dx = some (.own a) ∧ fs.length ≤ 1000 ∧ dx ≠ a ∧ h.get? a = some (PySem.W.instObj C dx) ∧
      ∃ mA, h.Ns1 dx mA ∧ (∀ f, RelO (fs.lookup f) (mA f)) ∧ PySem.Within mA (fs.map (·.1))
  | .own _ => ∃ o, h.get? a = some o
  | .xd fs => ∃ mA, h.Ns1 a mA ∧ ∀ f, RelO (fs.lookup f) (mA f)
  | .rng lo hi => ∃ t u v, h.get? a = some { cls := .type "range", data := .fields #[.int lo t, .int hi u, .int 1 v] }
  | .frz o u => h.get? a = some o ∧ ObjOk H h a u
  | .tbl ps => h.get? a = some { cls := .none, data := .fields ps }
  | .met f x => h.get? a = some (PySem.W.methodObj (.ref f) (.ref x))
  | .ext φ => φ h ∧ (∃ o, h.get? a = some o) ∧ ∀ h1 h2 : Heap, φ h1 → (∀ o, h1.get? a = some o → h2.get? a = some o) → φ h2
def HOk (H : Hp) (h : Heap) : Prop := ∀ a o, H a = some o → ObjOk P w H h a o
end
section
variable {P : Program} {w : World} {H H' : Hp} {h h' : Heap} {a : Addr} {o : HO}
theorem ObjOk.lt (x : ObjOk P w H h a o) : a < h.objs.size := by
  cases o with
  | lst xs => obtain ⟨_, _, _, _, e⟩ := x; exact Heap.lt_size e
  | tup xs => obtain ⟨_, _, _, p⟩ := x; exact p.lt
  | dK kvs => obtain ⟨_, _, _, _, o, _, _, e, _⟩ := x; exact Heap.lt_size e
  | dT kvs => obtain ⟨_, _, _, _, o, _, _, e, _⟩ := x; exact Heap.lt_size e
  | set S n => obtain ⟨o, _, _, _, e, _⟩ := x; exact Heap.lt_size e
  | ins C dx fs => obtain ⟨_, _, _, e, _⟩ := x; exact Heap.lt_size e
  | own y => obtain ⟨_, e⟩ := x; exact Heap.lt_size e
  | xd fs => obtain ⟨_, ⟨_, _, _, e, _⟩, _⟩ := x; exact Heap.lt_size e
  | rng lo hi => obtain ⟨_, _, _, e⟩ := x; exact Heap.lt_size e
  | frz ob u => obtain ⟨e, _⟩ := x; exact Heap.lt_size e
  | tbl ps => exact Heap.lt_size (show h.get? a = some _ from x)
  | met f y => exact Heap.lt_size (show h.get? a = some _ from x)
  | ext φ => obtain ⟨_, ⟨_, e⟩, _⟩ := x; exact Heap.lt_size e
theorem Paired.mapP {α β : Type} {F G : α → β → Prop} : ∀ {l₁ : List α} {l₂ : List β}, Paired F l₁ l₂ → (∀ a b, F a b → G a b) → Paired G l₁ l₂
  | _, _, .nil, _ => .nil
  | _, _, .cons r t, f => .cons (f _ _ r) (Paired.mapP t f)
theorem ObjOk.stay (x : ObjOk P w H h a o) (k : ∀ b u, (b = a ∨ H b = some (.own a)) → h.get? b = some u → h'.get? b = some u)
    (ho : ∀ b, H b = some (.own a) → H' b = some (.own a)) (ht : ∀ b xs, H b = some (.tup xs) → H' b = some (.tup xs)) : ObjOk P w H' h' a o := by
  induction o with
  | lst xs => obtain ⟨z, its, n, r, e⟩ := x; exact ⟨z, its, n, r, k _ _ (.inl rfl) e⟩
  | tup xs => obtain ⟨z, its, r, ob, e, c⟩ := x; exact ⟨z, its, r, ob, k _ _ (.inl rfl) e, c⟩
  | dK kvs => obtain ⟨z, y, vs, r, ob, es, ep, e, c⟩ := x; exact ⟨z, y, vs, r, ob, es, ep, k _ _ (.inl rfl) e, c⟩
  | dT kvs =>
    obtain ⟨z, y, xs, r, ob, es, ep, e, c⟩ := x
    exact ⟨z, y, xs, Paired.mapP r fun p q z => ⟨z.1, ht _ _ z.2.1, z.2.2⟩, ob, es, ep, k _ _ (.inl rfl) e, c⟩
  | set S n => obtain ⟨ob, es, ep, t, e, c⟩ := x; exact ⟨ob, es, ep, t, k _ _ (.inl rfl) e, c⟩
  | ins C dx fs =>
    obtain ⟨d, z, ne, e, mA, ⟨od, es, ep, e2, c⟩, r⟩ := x
    exact ⟨ho _ d, z, ne, k _ _ (.inl rfl) e, mA, ⟨od, es, ep, k _ _ (.inr d) e2, c⟩, r⟩
  | own y => obtain ⟨ob, e⟩ := x; exact ⟨ob, k _ _ (.inl rfl) e⟩
  | xd fs => obtain ⟨mA, ⟨od, es, ep, e, c⟩, r⟩ := x; exact ⟨mA, ⟨od, es, ep, k _ _ (.inl rfl) e, c⟩, r⟩
  | rng lo hi => obtain ⟨t, u, v, e⟩ := x; exact ⟨t, u, v, k _ _ (.inl rfl) e⟩
  | frz ob u ih => obtain ⟨e, q⟩ := x; exact ⟨k _ _ (.inl rfl) e, ih q⟩
  | tbl ps =>
    have e : h.get? a = some { cls := .none, data := .fields ps } := x
    show h'.get? a = some { cls := .none, data := .fields ps }
    exact k a _ (.inl rfl) e
  | met f y =>
    have e : h.get? a = some (PySem.W.methodObj (.ref f) (.ref y)) := x
    show h'.get? a = some (PySem.W.methodObj (.ref f) (.ref y))
    exact k a _ (.inl rfl) e
  | ext φ => obtain ⟨p, ⟨o, e⟩, st⟩ := x; exact ⟨st _ _ p fun o q => k _ _ (.inl rfl) q, ⟨o, k _ _ (.inl rfl) e⟩, st⟩
theorem HOk.lt (x : HOk P w H h) (e : H a = some o) : a < h.objs.size := (x a o e).lt
theorem HOk.fresh (x : HOk P w H h) (e : h.objs.size ≤ a) : H a = none := by
  cases q : H a with
  | none => rfl
  | some u => exact absurd (Nat.lt_of_lt_of_le (x.lt q) e) (Nat.lt_irrefl _)
theorem HOk.kept (x : HOk P w H h) (k : ∀ b u, h.get? b = some u → h'.get? b = some u) : HOk P w H h' := fun a o e =>
  (x a o e).stay (fun b u _ q => k b u q) (fun _ q => q) fun _ _ q => q
theorem HOk.laid (x : HOk P w H h) (k : ∀ b u, h.get? b = some u → h'.get? b = some u) (hp : h.objs.size ≤ a) (new : ObjOk P w (upd H a o) h' a o) : HOk P w (upd H a o) h' := fun b u e => by
  have hn := x.fresh hp
  by_cases hb : b = a
  · subst hb; rw [upd_same] at e; cases e; exact new
  · rw [upd_ne hb] at e
    exact (x b u e).stay (fun c v _ q => k c v q) (fun c q => by rw [upd_ne (ne_of_none q hn)]; exact q) fun c xs q => by rw [upd_ne (ne_of_none q hn)]; exact q
end
def Rd (H : Hp) (a : Addr) (u : HO) : Prop := H a = some u ∨ ∃ o, H a = some (.frz o u)
theorem Rd.of {H : Hp} {a : Addr} {u : HO} (h : H a = some u) : Rd H a u := .inl h
theorem Rd.ok {P : Program} {w : World} {H : Hp} {h : Heap} {a : Addr} {u : HO} (r : Rd H a u) (x : HOk P w H h) : ObjOk P w H h a u := by
  rcases r with r | ⟨o, r⟩
  · exact x a u r
  · obtain ⟨_, q⟩ := x a _ r
    exact q
def Mut : Option HO → Prop
  | some (.lst _) => True
  | some (.dK _) => True
  | some (.dT _) => True
  | some (.set _ _) => True
  | some (.ins _ _ _) => True
  | some (.ext _) => True
  | _ => False
section
variable {P : Program} {w : World} {H : Hp} {h h' : Heap} {x e : Addr} {o' : HO}
theorem HOk.write (ok : HOk P w H h) (mu : Mut (H x)) (he : e = x ∨ H e = some (.own x)) (k : ∀ b u, b ≠ e → h.get? b = some u → h'.get? b = some u) (heo : ∃ u, h'.get? e = some u)
    (new : ObjOk P w (upd H x o') h' x o') : HOk P w (upd H x o') h' := fun b u q => by
  have nown : ∀ c y, H c = some (.own y) → c ≠ x := fun c y r z => by subst z; rw [r] at mu; exact mu
  have ntup : ∀ c xs, H c = some (.tup xs) → c ≠ x := fun c xs r z => by subst z; rw [r] at mu; exact mu
  by_cases hb : b = x
  · subst hb; rw [upd_same] at q; cases q; exact new
  · rw [upd_ne hb] at q
    by_cases hbe : b = e
    · have q' : H b = some (.own x) := by
        rcases he with z | z
        · exact absurd (hbe.trans z) hb
        · rw [hbe]; exact z
      rw [q] at q'; cases q'
      obtain ⟨v, hv⟩ := heo
      exact ⟨v, by rw [hbe]; exact hv⟩
    · refine (ok b u q).stay (fun c v hc r => k c v ?_ r) (fun c r => by rw [upd_ne (nown c b r)]; exact r) fun c xs r => by rw [upd_ne (ntup c xs r)]; exact r
      rcases hc with rfl | hc
      · exact hbe
      · rintro rfl
        rcases he with z | z
        · exact nown c b hc z
        · rw [hc] at z; cases z; exact hb rfl
end
structure Un (fs ex : List Addr) (H H' : Hp) (h h' : Heap) : Prop where
  keep : ∀ b o, h.get? b = some o → H b = none → b ∉ fs → b ∉ ex → h'.get? b = some o
  slot : ∀ b o, h.get? b = some o → H b = none → b ∈ fs → b ∉ ex → ∃ sl, h'.get? b = some { o with slots := sl }
  free : ∀ b o, h.get? b = some o → H b = none → b ∉ ex → H' b = none
  there : ∀ b o, h.get? b = some o → b ∉ ex → ∃ o', h'.get? b = some o'
  tups : ∀ b xs, H b = some (.tup xs) → H' b = some (.tup xs)
  frzs : ∀ b o u, H b = some (.frz o u) → H' b = some (.frz o u)
  tbls : ∀ b ps, H b = some (.tbl ps) → ∃ more, H' b = some (.tbl (ps ++ more))
section
variable {fs fs' ex ex' : List Addr} {H H1 H2 : Hp} {h h1 h2 h' : Heap} {a x e : Addr} {o : HO}
theorem Un.any (u : Un fs ex H H1 h h1) {b : Addr} {ob : Obj} (q : h.get? b = some ob) (n : H b = none) (hx : b ∉ ex) : ∃ sl, h1.get? b = some { ob with slots := sl } := by
  by_cases hb : b ∈ fs
  · exact u.slot b ob q n hb hx
  · exact ⟨ob.slots, u.keep b ob q n hb hx⟩
theorem Un.trans (a : Un fs ex H H1 h h1) (b : Un fs ex H1 H2 h1 h2) : Un fs ex H H2 h h2 where
  keep := fun c ob q n hc hx => b.keep c ob (a.keep c ob q n hc hx) (a.free c ob q n hx) hc hx
  slot := fun c ob q n hc hx => by
    obtain ⟨sl, e1⟩ := a.slot c ob q n hc hx
    obtain ⟨sl', e2⟩ := b.slot c _ e1 (a.free c ob q n hx) hc hx
    exact ⟨sl', e2⟩
  free := fun c ob q n hx => by
    obtain ⟨o', e1⟩ := a.there c ob q hx
    exact b.free c o' e1 (a.free c ob q n hx) hx
  there := fun c ob q hx => by
    obtain ⟨o', e1⟩ := a.there c ob q hx
    exact b.there c o' e1 hx
  tups := fun c xs q => b.tups c xs (a.tups c xs q)
  frzs := fun c ob xs q => b.frzs c ob xs (a.frzs c ob xs q)
  tbls := fun c ps q => by
    obtain ⟨m1, e1⟩ := a.tbls c ps q
    obtain ⟨m2, e2⟩ := b.tbls c _ e1
    exact ⟨m1 ++ m2, by rw [e2, Array.append_assoc]⟩
theorem Un.kept (k : ∀ b u, h.get? b = some u → h'.get? b = some u) : Un fs ex H H h h' :=
  ⟨fun b ob q _ _ _ => k b ob q, fun b ob q _ _ _ => ⟨ob.slots, k b ob q⟩, fun _ _ _ n _ => n, fun b ob q _ => ⟨ob, k b ob q⟩, fun _ _ q => q, fun _ _ _ q => q, fun _ ps q => ⟨#[], by rw [q]; simp⟩⟩
theorem Un.refl : Un fs ex H H h h := Un.kept fun _ _ q => q
theorem Un.laid (k : ∀ b u, h.get? b = some u → h'.get? b = some u) (hp : h.objs.size ≤ a) (hn : H a = none) : Un fs ex H (upd H a o) h h' where
  keep := fun b u q _ _ _ => k b u q
  slot := fun b u q _ _ _ => ⟨u.slots, k b u q⟩
  free := fun b u q n _ => by rw [upd_ne (Nat.ne_of_lt (Nat.lt_of_lt_of_le (Heap.lt_size q) hp))]; exact n
  there := fun b u q _ => ⟨u, k b u q⟩
  tups := fun b xs q => by rw [upd_ne (ne_of_none q hn)]; exact q
  frzs := fun b u xs q => by rw [upd_ne (ne_of_none q hn)]; exact q
  tbls := fun b ps q => ⟨#[], by rw [upd_ne (ne_of_none q hn), q]; simp⟩
theorem Un.write (mu : Mut (H x)) (he : e = x ∨ H e = some (.own x)) (k : ∀ b u, b ≠ e → h.get? b = some u → h'.get? b = some u) (heo : ∃ u, h'.get? e = some u) : Un fs ex H (upd H x o) h h' := by
  have hx : ∀ b, H b = none → b ≠ x := fun b n z => by subst z; rw [n] at mu; exact mu
  have hb : ∀ b, H b = none → b ≠ e := fun b n z => by
    subst z
    rcases he with r | r
    · exact hx b n r
    · rw [n] at r; cases r
  have hm : ∀ b u, H b = some u → ¬ Mut (some u) → b ≠ x := fun b u q nm z => by subst z; rw [q] at mu; exact nm mu
  refine ⟨fun b u q n _ _ => k b u (hb b n) q, fun b u q n _ _ => ⟨u.slots, k b u (hb b n) q⟩, fun b u q n _ => by rw [upd_ne (hx b n)]; exact n, fun b u q _ => ?_,
    fun b xs q => by rw [upd_ne (hm b _ q fun z => z)]; exact q, fun b u xs q => by rw [upd_ne (hm b _ q fun z => z)]; exact q, fun b ps q => ⟨#[], by rw [upd_ne (hm b _ q fun z => z), q]; simp⟩⟩
  by_cases hbe : b = e
  · subst hbe; exact heo
  · exact ⟨u, k b u hbe q⟩
theorem Un.mono (u : Un fs ex H H1 h h1) (hs : ∀ b ∈ fs, b ∈ fs') (hx : ∀ b ∈ ex, b ∈ ex') : Un fs' ex' H H1 h h1 :=
  ⟨fun b ob q n hb he => u.keep b ob q n (fun z => hb (hs b z)) fun z => he (hx b z), fun _ _ q n _ he => u.any q n fun z => he (hx _ z), fun b ob q n he => u.free b ob q n fun z => he (hx b z), fun b ob q he => u.there b ob q fun z => he (hx b z), u.tups, u.frzs, u.tbls⟩
end
def trk (h : Heap) (H : Hp) : List Addr := (List.range h.objs.size).filter fun a => (H a).isSome
def hidT (h : Heap) (H : Hp) : Heap := PySem.W.hideAll h (trk h H)
theorem hidT_size (h : Heap) (H : Hp) : (hidT h H).objs.size = h.objs.size := PySem.W.hideAll_size _ _
theorem hidT_get {h : Heap} {H : Hp} {b : Addr} {o : Obj} (e : h.get? b = some o) (n : H b = none) : (hidT h H).get? b = some o :=
  PySem.W.hideAll_get _ e fun hm => by
    have q : (H b).isSome = true := (List.mem_filter.mp hm).2
    rw [n] at q; simp at q
theorem of_hidT {h : Heap} {H : Hp} {b : Addr} {o : Obj} (e : (hidT h H).get? b = some o) : h.get? b = some o ∧ H b = none := by
  have e' : h.get? b = some o := PySem.W.of_hideAll (trk h H) e
  refine ⟨e', ?_⟩
  cases q : H b with
  | none => rfl
  | some x =>
    have hm : b ∈ trk h H := List.mem_filter.mpr ⟨List.mem_range.mpr (Heap.lt_size e'), by simp [q]⟩
    have z : (hidT h H).get? b = none := PySem.W.hideAll_none (trk h H) hm
    rw [z] at e; cases e
def allNews (g h : Heap) (L : Addr) : List (Addr × Obj) := (List.range h.objs.size).filterMap fun a => if a = L ∨ (g.get? a).isSome = true then none else (h.get? a).map fun o => (a, o)
def rest (g h : Heap) (L d : Addr) : List (Addr × Obj) := (allNews g h L).filter fun p => decide (p.1 ≠ d)
end L2
namespace L2
open PySem PySem.Spec PyProof.Rows
structure Mod (K : PySem.W.Frag) (mg : Str → Option Value) (base : Heap) : Prop where
  kin : K.In base
  glob : base.Ns mainGlobals mg
  blt : ∃ mb, base.Ns builtinsNs mb ∧ ∀ x : Str, x ≠ "__name__" → mb x = bootBuiltins x
  nolimit : base.NoLimit
structure Cx where
  prog : Program
  w : World
  K : PySem.W.Frag
  mg : Str → Option Value
  base : Heap
  A : Around
  N : List Str
  s₀ : Shared
  H₀ : Hp
  env : Env
  outer : List Env
  stack : List Env
  ex : List Addr
  fn : Str → Bool
  calm : Bool
  pn : List (Addr × Obj)
  xe : Value → Shared → Prop
def frs (l : List Env) : List Addr := l.filterMap (·.frame)
abbrev Cx.fs (X : Cx) : List Addr := frs X.outer
def Vis (sc : Scope) (x : Str) : Prop := sc.names.lookup x = some .local ∨ sc.names.lookup x = some .cell ∨ sc.names.lookup x = some .free
def Loc (sc : Scope) (x : Str) : Prop := sc.names.lookup x = some .local ∨ sc.names.lookup x = some .cell
def Look (env : Env) (h : Heap) (m : Str → Option Value) (x : Str) (u : Value) : Prop :=
  (env.kindOf x = some .local ∧ m x = some u) ∨ ((env.kindOf x = some .cell ∨ env.kindOf x = some .free) ∧ ∃ c, env.cells.lookup x = some c ∧ h.IsCell c (some u))
structure Cx.Ok (X : Cx) : Prop where
  mod : Mod X.K X.mg X.base
  kind : X.env.scope.kind = .function
  glob : X.env.globals = mainGlobals
  blt : X.env.builtins = builtinsNs
  above : X.s₀.heap.objs.size ≤ X.env.locals
  inj : ∀ x y c, X.env.cells.lookup x = some c → X.env.cells.lookup y = some c → x = y
  has : ∀ x, (X.env.kindOf x = some .cell ∨ X.env.kindOf x = some .free) → ∃ c, X.env.cells.lookup x = some c
  cab : ∀ x c, X.fn x = true → X.env.cells.lookup x = some c → X.s₀.heap.objs.size ≤ c
  hd : X.calm = true → X.A.handled = none
  frames : X.A.frames = some X.stack
  stk : X.stack = X.outer ∨ (X.stack = X.env :: X.outer ∧ X.env.frame = some X.env.locals)
  exf : ∀ b ∈ X.ex, b ≠ X.env.locals ∧ ∀ x c, X.env.cells.lookup x = some c → c ≠ b
  bs : ∀ b o, X.base.get? b = some o → X.s₀.heap.get? b = some o ∧ X.H₀ b = none
  bsz : X.base.objs.size ≤ X.s₀.heap.objs.size
  noex : ∀ b o, X.base.get? b = some o → b ∉ X.ex
  exfs : ∀ b ∈ X.ex, b ∉ X.fs
  funs : X.s₀.heap.FunFrames X.base X.outer
  frf : ∀ b ∈ X.fs, X.H₀ b = none
structure Inv (X : Cx) (pins : List (Addr × Obj)) (σ : List (Option V)) (H : Hp) (s : Shared) : Prop where
  ok : X.Ok
  os : s.os = X.s₀.os
  bare : AllBare s.gens
  base : Un X.fs X.ex X.H₀ H X.s₀.heap s.heap
  loc : ∃ m, s.heap.Ns X.env.locals m ∧ ∀ (i : Nat) (x : Str) (v : V), X.N[i]? = some x → σ[i]? = some (some v) → Vis X.env.scope x → ∃ u, RelV v u ∧ Look X.env s.heap m x u
  cell : ∀ x c, X.env.cells.lookup x = some c → ∃ v, s.heap.IsCell c v
  free : H X.env.locals = none
  freeC : ∀ x c, X.env.cells.lookup x = some c → H c = none
  pin : ∀ p ∈ X.pn ++ pins, s.heap.get? p.1 = some p.2 ∧ H p.1 = none ∧ p.1 ≠ X.env.locals ∧ p.1 ∉ X.fs ∧ ∀ v, p.2.data ≠ .cell v
  hok : HOk X.prog X.w H s.heap
  len : σ.length = X.N.length
section
variable {X : Cx} {pins : List (Addr × Obj)} {σ : List (Option V)} {H H' : Hp} {s : Shared} {h' : Heap}
theorem Cx.Ok.nofr (ok : X.Ok) {b : Addr} {o : Obj} (e : X.base.get? b = some o) : b ∉ X.fs := fun hb => by
  have := (ok.funs.mem hb).1
  rw [e] at this; cases this
theorem Inv.bs (I : Inv X pins σ H s) : ∀ b o, X.base.get? b = some o → s.heap.get? b = some o ∧ H b = none := fun b o e =>
  ⟨I.base.keep b o (I.ok.bs b o e).1 (I.ok.bs b o e).2 (I.ok.nofr e) (I.ok.noex b o e), I.base.free b o (I.ok.bs b o e).1 (I.ok.bs b o e).2 (I.ok.noex b o e)⟩
theorem Inv.bk (I : Inv X pins σ H s) : ∀ b o, X.base.get? b = some o → s.heap.get? b = some o := fun b o e => (I.bs b o e).1
theorem Inv.mod (I : Inv X pins σ H s) : Mod X.K X.mg X.base := I.ok.mod
theorem Inv.kIn (I : Inv X pins σ H s) : X.K.In s.heap := I.ok.mod.kin.keeps I.bk
theorem Inv.nolimit (I : Inv X pins σ H s) : s.heap.NoLimit := I.ok.mod.nolimit.keeps I.bk
theorem Inv.fr (I : Inv X pins σ H s) : ∃ m, Fr X.base X.env.locals s.heap m :=
  let ⟨m, hn, _⟩ := I.loc
  ⟨m, hn, I.bk, Nat.le_trans I.ok.bsz I.ok.above⟩
theorem Inv.lt (I : Inv X pins σ H s) : X.env.locals < s.heap.objs.size := let ⟨_, hn, _⟩ := I.loc; hn.lt
theorem Inv.sz (I : Inv X pins σ H s) : X.s₀.heap.objs.size ≤ s.heap.objs.size := Nat.le_trans I.ok.above (Nat.le_of_lt I.lt)
theorem Inv.nofs (I : Inv X pins σ H s) {a : Addr} (h : s.heap.objs.size ≤ a) : a ∉ X.fs := fun hb => by
  obtain ⟨_, o, ho, _⟩ := I.ok.funs.mem hb
  exact absurd (Nat.lt_of_lt_of_le (Heap.lt_size ho) (Nat.le_trans I.sz h)) (Nat.lt_irrefl _)
theorem Inv.cne (I : Inv X pins σ H s) : ∀ x c, X.env.cells.lookup x = some c → c ≠ X.env.locals := fun x c e z => by
  obtain ⟨v, o, ho, hd⟩ := I.cell x c e
  obtain ⟨m, ⟨o', es, ep, ho', hd', _⟩, _⟩ := I.loc
  rw [z, ho'] at ho; cases ho; rw [hd'] at hd; cases hd
theorem Inv.funs (I : Inv X pins σ H s) : s.heap.FunFrames X.base X.outer := by
  have all : ∀ (l : List Env), (∀ b ∈ frs l, b ∈ X.fs) → X.s₀.heap.FunFrames X.base l → s.heap.FunFrames X.base l := by
    intro l
    induction l with
    | nil => intro _ _; trivial
    | cons env r ih =>
      intro hs hl
      obtain ⟨hk, ⟨L, o, hf, hn, ho, hd⟩, hr⟩ := hl
      have hL : L ∈ X.fs := hs L (by unfold frs; rw [List.filterMap_cons, hf]; exact List.mem_cons_self)
      obtain ⟨sl, e⟩ := I.base.slot L o ho (I.ok.frf L hL) hL fun z => I.ok.exfs L z hL
      exact ⟨hk, ⟨L, _, hf, hn, e, hd⟩, ih (fun b hb => hs b (by unfold frs; rw [List.filterMap_cons, hf]; exact List.mem_cons_of_mem _ hb)) hr⟩
  exact all X.outer (fun _ hb => hb) I.ok.funs
theorem Inv.stack (I : Inv X pins σ H s) : s.heap.FunFrames X.base X.stack := by
  rcases I.ok.stk with e | ⟨e, hf⟩
  · rw [e]; exact I.funs
  · rw [e]
    obtain ⟨m, hn, _⟩ := I.loc
    refine .cons (by rw [I.ok.kind]; decide) hf hn ?_ I.funs
    exact Heap.get?_none_of_le (Nat.le_trans I.ok.bsz I.ok.above)
theorem Inv.stkSub (I : Inv X pins σ H s) : ∀ b ∈ frs X.stack, b ∈ X.env.locals :: X.fs := fun b hb => by
  rcases I.ok.stk with e | ⟨e, hf⟩
  · rw [e] at hb; exact List.mem_cons_of_mem _ hb
  · rw [e] at hb
    unfold frs at hb
    rw [List.filterMap_cons, hf] at hb
    exact hb
theorem Inv.stkFree (I : Inv X pins σ H s) : ∀ b ∈ frs X.stack, H b = none := fun b hb => by
  rcases List.mem_cons.mp (I.stkSub b hb) with e | hb
  · rw [e]; exact I.free
  · obtain ⟨_, o, ho, _⟩ := I.ok.funs.mem hb
    exact I.base.free b o ho (I.ok.frf b hb) fun z => I.ok.exfs b z hb
theorem Inv.step {g' : Array GenState} {t' : Nat} {d' : Drawn} {ch : List Addr} (I : Inv X pins σ H s)
    (hch : ∀ b ∈ ch, (b ∈ X.ex ∨ X.s₀.heap.objs.size ≤ b) ∧ b ≠ X.env.locals ∧ (∀ x c, X.env.cells.lookup x = some c → c ≠ b) ∧ ∀ p ∈ X.pn ++ pins, p.1 ≠ b)
    (keep : ∀ b o, b ≠ X.env.locals → b ∉ X.fs → b ∉ ch → s.heap.get? b = some o → H b = none → h'.get? b = some o)
    (slot : ∀ b o, b ≠ X.env.locals → b ∈ X.fs → b ∉ ch → s.heap.get? b = some o → H b = none → ∃ sl, h'.get? b = some { o with slots := sl }) (free : ∀ b o, b ∉ ch → s.heap.get? b = some o → H b = none → H' b = none)
    (there : ∀ b o, b ∉ ch → s.heap.get? b = some o → ∃ o', h'.get? b = some o')
    (tups : ∀ b xs, H b = some (.tup xs) → H' b = some (.tup xs)) (frzs : ∀ b o u, H b = some (.frz o u) → H' b = some (.frz o u)) (tbls : ∀ b ps, H b = some (.tbl ps) → ∃ more, H' b = some (.tbl (ps ++ more)))
    (ns : ∀ m, s.heap.Ns X.env.locals m → h'.Ns X.env.locals m) (hok : HOk X.prog X.w H' h') (hg : AllBare g') :
    Inv X pins σ H' { s with heap := h', gens := g', drawn := d', toks := t' } := by
  have neL : ∀ b o, X.s₀.heap.get? b = some o → b ≠ X.env.locals := fun b o e => Nat.ne_of_lt (Nat.lt_of_lt_of_le (Heap.lt_size e) I.ok.above)
  have neC : ∀ b o, X.s₀.heap.get? b = some o → b ∉ X.ex → b ∉ ch := fun b o e hx hb => by
    rcases (hch b hb).1 with z | z
    · exact hx z
    · exact absurd (Nat.lt_of_lt_of_le (Heap.lt_size e) z) (Nat.lt_irrefl _)
  have cellK : ∀ x c, X.env.cells.lookup x = some c → ∀ v, s.heap.IsCell c v → h'.IsCell c v := fun x c e v ⟨o, ho, hd⟩ => by
    have nch : c ∉ ch := fun z => (hch c z).2.2.1 x c e rfl
    by_cases hc : c ∈ X.fs
    · obtain ⟨sl, q⟩ := slot c o (I.cne x c e) hc nch ho (I.freeC x c e)
      exact ⟨_, q, hd⟩
    · exact ⟨o, keep c o (I.cne x c e) hc nch ho (I.freeC x c e), hd⟩
  refine ⟨I.ok, I.os, hg, ⟨fun b o e n hb hx => ?_, fun b o e n hb hx => ?_, fun b o e n hx => ?_, fun b o e hx => ?_, fun b xs e => tups b xs (I.base.tups b xs e), fun b o xs e => frzs b o xs (I.base.frzs b o xs e), fun b ps e => ?_⟩, ?_, fun x c e => ?_, ?_, fun x c e => ?_, fun p hp => ?_, hok, I.len⟩
  · exact keep b o (neL b o e) hb (neC b o e hx) (I.base.keep b o e n hb hx) (I.base.free b o e n hx)
  · obtain ⟨sl, e1⟩ := I.base.slot b o e n hb hx
    obtain ⟨sl', e2⟩ := slot b _ (neL b o e) hb (neC b o e hx) e1 (I.base.free b o e n hx)
    exact ⟨sl', e2⟩
  · obtain ⟨o', e1⟩ := I.base.there b o e hx
    exact free b o' (neC b o e hx) e1 (I.base.free b o e n hx)
  · obtain ⟨o', e1⟩ := I.base.there b o e hx
    exact there b o' (neC b o e hx) e1
  · obtain ⟨m1, e1⟩ := I.base.tbls b ps e
    obtain ⟨m2, e2⟩ := tbls b _ e1
    exact ⟨m1 ++ m2, by rw [e2, Array.append_assoc]⟩
  · obtain ⟨m, hn, hl⟩ := I.loc
    refine ⟨m, ns m hn, fun i x v e1 e2 e3 => ?_⟩
    obtain ⟨u, r, l⟩ := hl i x v e1 e2 e3
    refine ⟨u, r, ?_⟩
    rcases l with l | ⟨k, c, e, z⟩
    · exact .inl l
    · exact .inr ⟨k, c, e, cellK x c e _ z⟩
  · obtain ⟨v, z⟩ := I.cell x c e
    exact ⟨v, cellK x c e v z⟩
  · obtain ⟨m, ⟨o, _, _, ho, _⟩, _⟩ := I.loc
    exact free _ o (fun z => (hch _ z).2.1 rfl) ho I.free
  · obtain ⟨v, o, ho, hd⟩ := I.cell x c e
    exact free c o (fun z => (hch c z).2.2.1 x c e rfl) ho (I.freeC x c e)
  · obtain ⟨e, n, ne, nf, d⟩ := I.pin p hp
    have nch : p.1 ∉ ch := fun z => (hch p.1 z).2.2.2 p hp rfl
    exact ⟨keep p.1 p.2 ne nf nch e n, free p.1 p.2 nch e n, ne, nf, d⟩
theorem Inv.un {t' : Nat} (I : Inv X pins σ H s) (u : Un X.fs [] H H' s.heap h') (hok : HOk X.prog X.w H' h') : Inv X pins σ H' { s with heap := h', toks := t' } := by
  obtain ⟨m, ⟨o, es, ep, ho, r⟩, _⟩ := id I.loc
  obtain ⟨sl, hL⟩ := u.any ho I.free (by simp)
  exact I.step (g' := s.gens) (d' := s.drawn) (ch := []) (fun _ z => nomatch z) (fun b o _ hb _ e n => u.keep b o e n hb (by simp)) (fun b o _ hb _ e n => u.slot b o e n hb (by simp)) (fun b o _ e n => u.free b o e n (by simp)) (fun b o _ e => u.there b o e (by simp)) u.tups u.frzs u.tbls (fun m' hm => by
    obtain ⟨o', es', ep', ho', r'⟩ := hm
    rw [ho] at ho'; cases ho'
    exact ⟨_, es', ep', hL, r'⟩) hok I.bare
theorem Inv.call {g' : Array GenState} {t' : Nat} {d' : Drawn} {ch : List Addr} (I : Inv X pins σ H s) (u : Un (frs X.stack) ch H H' s.heap h') (hok : HOk X.prog X.w H' h') (hg : AllBare g')
    (hch : ∀ b ∈ ch, (b ∈ X.ex ∨ X.s₀.heap.objs.size ≤ b) ∧ b ≠ X.env.locals ∧ (∀ x c, X.env.cells.lookup x = some c → c ≠ b) ∧ ∀ p ∈ X.pn ++ pins, p.1 ≠ b) :
    Inv X pins σ H' { s with heap := h', gens := g', drawn := d', toks := t' } := by
  obtain ⟨m, ⟨o, es, ep, ho, r⟩, _⟩ := id I.loc
  obtain ⟨sl, hL⟩ := u.any ho I.free fun z => (hch _ z).2.1 rfl
  exact I.step (ch := ch) hch (fun b o hL hb hc e n => u.keep b o e n (fun z => (List.mem_cons.mp (I.stkSub b z)).elim hL hb) hc) (fun b o _ _ hc e n => u.any e n hc) (fun b o hc e n => u.free b o e n hc) (fun b o hc e => u.there b o e hc) u.tups u.frzs u.tbls (fun m' hm => by
    obtain ⟨o', es', ep', ho', r'⟩ := hm
    rw [ho] at ho'; cases ho'
    exact ⟨_, es', ep', hL, r'⟩) hok hg
theorem Inv.turned {t' : Nat} {it : Addr} (I : Inv X pins σ H s) (k : ∀ b o, b ≠ it → s.heap.get? b = some o → h'.get? b = some o) (hn : H it = none) (hL : it ≠ X.env.locals)
    (h1 : it ∈ X.ex ∨ X.s₀.heap.objs.size ≤ it) (h2 : ∀ x c, X.env.cells.lookup x = some c → c ≠ it) (h3 : ∀ p ∈ X.pn ++ pins, p.1 ≠ it) : Inv X pins σ H { s with heap := h', toks := t' } := by
  have nit : ∀ b u, H b = some u → b ≠ it := fun b u e z => by rw [z, hn] at e; cases e
  refine I.step (g' := s.gens) (d' := s.drawn) (ch := [it]) (fun b hb => ?_) (fun b o _ _ hc e _ => k b o (fun z => hc (by simp [z])) e) (fun b o _ _ hc e _ => ⟨o.slots, k b o (fun z => hc (by simp [z])) e⟩) (fun _ _ _ _ n => n)
    (fun b o hc e => ⟨o, k b o (fun z => hc (by simp [z])) e⟩) (fun _ _ e => e) (fun _ _ _ e => e) (fun b ps e => ⟨#[], by rw [e]; simp⟩) (fun m hm => ?_) (fun b u e => ?_) I.bare
  · have e : b = it := by simpa using hb
    subst e
    exact ⟨h1, hL, h2, h3⟩
  · obtain ⟨o, es, ep, ho, r⟩ := hm
    exact ⟨o, es, ep, k _ o (Ne.symm hL) ho, r⟩
  · refine (I.hok b u e).stay (fun c v hc q => k c v ?_ q) (fun _ q => q) fun _ _ q => q
    rcases hc with z | z
    · rw [z]; exact nit b u e
    · exact nit c _ z
theorem Inv.tok (I : Inv X pins σ H s) (t : Nat) : Inv X pins σ H { s with toks := t } := I.un (h' := s.heap) (t' := t) Un.refl I.hok
theorem Inv.kept {t' : Nat} (I : Inv X pins σ H s) (k : ∀ b u, s.heap.get? b = some u → h'.get? b = some u) : Inv X pins σ H { s with heap := h', toks := t' } := I.un (Un.kept k) (I.hok.kept k)
theorem Inv.laid {a : Addr} {o : HO} {t' : Nat} (I : Inv X pins σ H s) (k : ∀ b u, s.heap.get? b = some u → h'.get? b = some u) (hp : s.heap.objs.size ≤ a) (new : ObjOk X.prog X.w (upd H a o) h' a o) :
    Inv X pins σ (upd H a o) { s with heap := h', toks := t' } := I.un (Un.laid k hp (I.hok.fresh hp)) (I.hok.laid k hp new)
theorem Inv.write {x e : Addr} {o : HO} {t' : Nat} (I : Inv X pins σ H s) (mu : Mut (H x)) (he : e = x ∨ H e = some (.own x)) (k : ∀ b u, b ≠ e → s.heap.get? b = some u → h'.get? b = some u) (heo : ∃ u, h'.get? e = some u)
    (new : ObjOk X.prog X.w (upd H x o) h' x o) : Inv X pins σ (upd H x o) { s with heap := h', toks := t' } := I.un (Un.write mu he k heo) (I.hok.write mu he k heo new)
theorem Inv.pins_of {pins' : List (Addr × Obj)} (I : Inv X pins σ H s) (h : ∀ p ∈ pins', s.heap.get? p.1 = some p.2 ∧ H p.1 = none ∧ p.1 ≠ X.env.locals ∧ p.1 ∉ X.fs ∧ ∀ v, p.2.data ≠ .cell v) : Inv X pins' σ H s :=
  ⟨I.ok, I.os, I.bare, I.base, I.loc, I.cell, I.free, I.freeC, fun p hp => (List.mem_append.mp hp).elim (fun z => I.pin p (List.mem_append_left _ z)) (h p), I.hok, I.len⟩
theorem nodup_ix {N : List Str} (hN : N.Nodup) {i j : Nat} {x : Str} (a : N[i]? = some x) (b : N[j]? = some x) : i = j := by
  obtain ⟨h1, e1⟩ := List.getElem?_eq_some_iff.mp a
  obtain ⟨h2, e2⟩ := List.getElem?_eq_some_iff.mp b
  exact (List.getElem_inj hN).mp (e1.trans e2.symm)
theorem store_ok2 {M : Model} {A : Around} {E : Value → Shared → Prop} {i : Nat} {x : Str} {v : V} {u : Value} {Q : Unit → Shared → Prop} (I : Inv X pins σ H s) (hN : X.N.Nodup) (hi : X.N[i]? = some x) (hx : Loc X.env.scope x) (r : RelV v u)
    (h : ∀ s', Inv X pins (σ.set i (some v)) H s' → (∃ a, Heap.SameBut a s.heap s'.heap ∧ (a = X.env.locals ∨ X.env.cells.lookup x = some a)) → Q () s') (hf : X.fn x = true ∨ X.env.scope.names.lookup x = some .local := by first | exact .inl rfl | exact .inr rfl | assumption) : wpAny M A (storeName X.env x u) Q E s := by
  obtain ⟨m, hn, hl⟩ := id I.loc
  have hcls : (X.env.scope.kind == .class || (X.env.scope.kind == .module && X.env.locals != X.env.globals)) = false := by rw [I.ok.kind]; rfl
  have hiσ : i < σ.length := by rw [I.len]; exact (List.getElem?_eq_some_iff.mp hi).1
  have cne := I.cne
  have tracked : ∀ {a : Addr} {h' : Heap}, (∃ o, s.heap.get? a = some o ∧ H a = none) → Heap.SameBut a s.heap h' → HOk X.prog X.w H h' := fun {a h'} ha hs b ob e => by
    obtain ⟨_, _, hfree⟩ := ha
    refine (I.hok b ob e).stay (fun c w' hc q => (hs.2 c ?_).trans q) (fun _ q => q) fun _ _ q => q
    rintro rfl
    rcases hc with rfl | hc
    · rw [hfree] at e; cases e
    · rw [hfree] at hc; cases hc
  rcases hx with hk | hk
  · refine wpAny_storeName_local hk hn (fun h' hn' hs => ?_) hcls
    obtain ⟨oL, _, _, hoL, _⟩ := id hn
    refine h _ ⟨I.ok, I.os, I.bare, ⟨fun b o e n hb hx => ?_, fun b o e n hb hx => ?_, I.base.free, fun b o e hx => ?_, I.base.tups, I.base.frzs, I.base.tbls⟩, ⟨_, hn', fun j y v' e1 e2 e3 => ?_⟩, fun y c e => ?_, I.free, I.freeC, fun p hp => ?_, tracked ⟨oL, hoL, I.free⟩ hs, by simpa using I.len⟩ ⟨_, hs, .inl rfl⟩
    · exact (hs.2 b (Nat.ne_of_lt (Nat.lt_of_lt_of_le (Heap.lt_size e) I.ok.above))).trans (I.base.keep b o e n hb hx)
    · obtain ⟨sl, e1⟩ := I.base.slot b o e n hb hx
      exact ⟨sl, (hs.2 b (Nat.ne_of_lt (Nat.lt_of_lt_of_le (Heap.lt_size e) I.ok.above))).trans e1⟩
    · obtain ⟨o', e1⟩ := I.base.there b o e hx
      exact ⟨o', (hs.2 b (Nat.ne_of_lt (Nat.lt_of_lt_of_le (Heap.lt_size e) I.ok.above))).trans e1⟩
    · by_cases hj : j = i
      · subst hj
        rw [hi] at e1; cases e1
        rw [List.getElem?_set_self hiσ] at e2
        cases e2
        exact ⟨u, r, .inl ⟨hk, by simp⟩⟩
      · rw [List.getElem?_set_ne (Ne.symm hj)] at e2
        obtain ⟨u', r', q⟩ := hl j y v' e1 e2 e3
        refine ⟨u', r', ?_⟩
        rcases q with ⟨k, e⟩ | ⟨k, c, e, z⟩
        · refine .inl ⟨k, ?_⟩
          have : y ≠ x := fun e => hj (nodup_ix hN e1 (e ▸ hi))
          simp [this, e]
        · exact .inr ⟨k, c, e, z.sameBut hs (cne y c e)⟩
    · obtain ⟨w', z⟩ := I.cell y c e
      exact ⟨w', z.sameBut hs (cne y c e)⟩
    · obtain ⟨e, n, ne, nf, d⟩ := I.pin p hp
      exact ⟨(hs.2 p.1 ne).trans e, n, ne, nf, d⟩
  · have hfn : X.fn x = true := by
      rcases hf with z | z
      · exact z
      · rw [z] at hk; cases hk
    obtain ⟨c, hc⟩ := I.ok.has x (.inl hk)
    obtain ⟨w', z⟩ := I.cell x c hc
    refine wpAny_storeName_cell I.ok.kind hk hc z (fun h' hc' hs => ?_)
    obtain ⟨oc, hoc, hocd⟩ := id z
    refine h { s with heap := h' } ⟨I.ok, I.os, I.bare, ⟨fun b o e n hb hx => ?_, fun b o e n hb hx => ?_, I.base.free, fun b o e hx => ?_, I.base.tups, I.base.frzs, I.base.tbls⟩, ⟨m, hn.sameBut hs (Ne.symm (cne x c hc)), fun j y v' e1 e2 e3 => ?_⟩, fun y c' e => ?_, I.free, I.freeC, fun p hp => ?_, tracked ⟨oc, hoc, I.freeC x c hc⟩ hs, by simpa using I.len⟩ ⟨c, hs, .inr hc⟩
    · exact (hs.2 b (Nat.ne_of_lt (Nat.lt_of_lt_of_le (Heap.lt_size e) (I.ok.cab x c hfn hc)))).trans (I.base.keep b o e n hb hx)
    · obtain ⟨sl, e1⟩ := I.base.slot b o e n hb hx
      exact ⟨sl, (hs.2 b (Nat.ne_of_lt (Nat.lt_of_lt_of_le (Heap.lt_size e) (I.ok.cab x c hfn hc)))).trans e1⟩
    · obtain ⟨o', e1⟩ := I.base.there b o e hx
      exact ⟨o', (hs.2 b (Nat.ne_of_lt (Nat.lt_of_lt_of_le (Heap.lt_size e) (I.ok.cab x c hfn hc)))).trans e1⟩
    · by_cases hj : j = i
      · subst hj
        rw [hi] at e1; cases e1
        rw [List.getElem?_set_self hiσ] at e2
        cases e2
        exact ⟨u, r, .inr ⟨.inl hk, c, hc, hc'⟩⟩
      · rw [List.getElem?_set_ne (Ne.symm hj)] at e2
        obtain ⟨u', r', q⟩ := hl j y v' e1 e2 e3
        refine ⟨u', r', ?_⟩
        rcases q with q | ⟨k, c', e, z'⟩
        · exact .inl q
        · refine .inr ⟨k, c', e, z'.sameBut hs ?_⟩
          rintro rfl
          exact hj (nodup_ix hN e1 (I.ok.inj _ _ _ e hc ▸ hi))
    · by_cases hcc : c' = c
      · subst hcc; exact ⟨_, hc'⟩
      · obtain ⟨w2, z2⟩ := I.cell y c' e
        exact ⟨w2, z2.sameBut hs hcc⟩
    · obtain ⟨e, n, ne, nf, d⟩ := I.pin p hp
      refine ⟨(hs.2 p.1 ?_).trans e, n, ne, nf, d⟩
      intro q
      rw [q, hoc] at e
      have q' : oc = p.2 := Option.some.inj e
      exact d w' (by rw [← q']; exact hocd)
theorem store_ok {M : Model} {A : Around} {E : Value → Shared → Prop} {i : Nat} {x : Str} {v : V} {u : Value} {Q : Unit → Shared → Prop} (I : Inv X pins σ H s) (hN : X.N.Nodup) (hi : X.N[i]? = some x) (hx : Loc X.env.scope x) (r : RelV v u)
    (h : ∀ s', Inv X pins (σ.set i (some v)) H s' → Q () s') (hf : X.fn x = true ∨ X.env.scope.names.lookup x = some .local := by first | exact .inl rfl | exact .inr rfl | assumption) : wpAny M A (storeName X.env x u) Q E s :=
  store_ok2 I hN hi hx r (fun s' I' _ => h s' I') hf
theorem Inv.call' {s' : Shared} {ch : List Addr} (I : Inv X pins σ H s) (ho : s'.os = s.os) (u : Un (frs X.stack) ch H H' s.heap s'.heap) (hok : HOk X.prog X.w H' s'.heap) (hg : AllBare s'.gens)
    (hch : ∀ b ∈ ch, (b ∈ X.ex ∨ X.s₀.heap.objs.size ≤ b) ∧ b ≠ X.env.locals ∧ (∀ x c, X.env.cells.lookup x = some c → c ≠ b) ∧ ∀ p ∈ X.pn ++ pins, p.1 ≠ b) : Inv X pins σ H' s' := by
  obtain ⟨h', g', d', t', o'⟩ := s'
  have e : o' = s.os := ho
  subst e
  exact I.call (g' := g') (t' := t') (d' := d') u hok hg hch
end
abbrev XK := Value → Option Addr → Hp → Prop
abbrev St := List (Option V)
abbrev VK := V → Hp → Prop
abbrev TE := St → Hp → VK → Prop
abbrev TT := St → Hp → (Bool → Hp → Prop) → Prop
abbrev TA := St → Hp → (List V → Hp → Prop) → Prop
structure Ends where
  nx : St → Hp → Prop
  rt : VK
  bk : St → Hp → Prop := fun _ _ => False
  ct : St → Hp → Prop := fun _ _ => False
abbrev TS := Ends → St → Hp → Prop
def EP (X : Cx) (pins : List (Addr × Obj)) (σ : St) (Q : VK) (u : Value) (s' : Shared) : Prop := ∃ v H', Inv X pins σ H' s' ∧ RelV v u ∧ Q v H'
def TP (X : Cx) (pins : List (Addr × Obj)) (σ : St) (Q : Bool → Hp → Prop) (b : Bool) (s' : Shared) : Prop := ∃ H', Inv X pins σ H' s' ∧ Q b H'
def AP (X : Cx) (pins : List (Addr × Obj)) (σ : St) (Q : List V → Hp → Prop) (us : List Value) (s' : Shared) : Prop := ∃ vs H', Inv X pins σ H' s' ∧ Vals vs us ∧ Q vs H'
def SP (X : Cx) (pins : List (Addr × Obj)) (D : Ends) (f : Flow) (s' : Shared) : Prop :=
  match f with
  | .next => ∃ σ' H', Inv X pins σ' H' s' ∧ D.nx σ' H'
  | .brk => ∃ σ' H', Inv X pins σ' H' s' ∧ D.bk σ' H'
  | .cont => ∃ σ' H', Inv X pins σ' H' s' ∧ D.ct σ' H'
  | .ret u => ∃ v σ' H', Inv X pins σ' H' s' ∧ RelV v u ∧ D.rt v H'
def PE (X : Cx) (e : Expr) (t : TE) : Prop :=
  ∀ (pins : List (Addr × Obj)) (s : Shared) (σ : St) (H : Hp) (Q : VK), Inv X pins σ H s → t σ H Q → wpAny (model X.prog X.w) X.A (eval e X.env) (EP X pins σ Q) X.xe s
def PT (X : Cx) (e : Expr) (t : TT) : Prop :=
  ∀ (pins : List (Addr × Obj)) (s : Shared) (σ : St) (H : Hp) (Q : Bool → Hp → Prop), Inv X pins σ H s → t σ H Q → wpAny (model X.prog X.w) X.A (isTrue e X.env (eval e X.env)) (TP X pins σ Q) X.xe s
def PW (X : Cx) (e : Expr) (t : TT) : Prop :=
  ∀ (whole : Sem Value) (pins : List (Addr × Obj)) (s : Shared) (σ : St) (H : Hp) (Q : Bool → Hp → Prop), Inv X pins σ H s → t σ H Q → wpAny (model X.prog X.w) X.A (isTrue e X.env whole) (TP X pins σ Q) X.xe s
theorem PW.pt {X : Cx} {e : Expr} {t : TT} (h : PW X e t) : PT X e t := h _
def PA (X : Cx) (es : List Expr) (t : TA) : Prop :=
  ∀ (pos : Pos) (pins : List (Addr × Obj)) (s : Shared) (σ : St) (H : Hp) (Q : List V → Hp → Prop), Inv X pins σ H s → t σ H Q → wpAny (model X.prog X.w) X.A (spliced (backTo pos (starEach es X.env))) (AP X pins σ Q) X.xe s
def PS (X : Cx) (st : Stmt) (t : TS) : Prop :=
  ∀ (pins : List (Addr × Obj)) (s : Shared) (σ : St) (H : Hp) (D : Ends), Inv X pins σ H s → t D σ H → wpAny (model X.prog X.w) X.A (exec st X.env) (SP X pins D) X.xe s
def PSs (X : Cx) (st : List Stmt) (t : TS) : Prop :=
  ∀ (pins : List (Addr × Obj)) (s : Shared) (σ : St) (H : Hp) (D : Ends), Inv X pins σ H s → t D σ H → wpAny (model X.prog X.w) X.A (execs st X.env) (SP X pins D) X.xe s
theorem thn {α : Type} {t : Sem α} {Q Q' : α → Shared → Prop} {M : Model} {A : Around} {E : Value → Shared → Prop} {s : Shared} (h : wpAny M A t Q E s) (hQ : ∀ a s, Q a s → Q' a s) : wpAny M A t Q' E s := wpAny_mono h hQ fun _ _ x => x
end L2
namespace L2
open PySem PySem.Spec PyProof.Rows
section
variable {X : Cx}
def tVar (i : Nat) : TE := fun σ H Q => ∃ v, σ[i]? = some (some v) ∧ Q v H
def tC (v : V) : TE := fun _ H Q => Q v H
theorem pe_var {i : Nat} {x : Str} {pos : Pos} (hN : X.N[i]? = some x) (hv : Vis X.env.scope x) (hd : (x == ("__debug__" : Str)) = false := by decide) (hcd : (x == ("__classdict__" : Str)) = false := by decide) : PE X (.Name x pos) (tVar i) := by
  intro pins s σ H Q I h
  obtain ⟨v, e, h⟩ := h
  obtain ⟨m, hn, hl⟩ := I.loc
  obtain ⟨u, r, l⟩ := hl i x v hN e hv
  have fin : EP X pins σ Q u s := ⟨v, H, I, r, h⟩
  rcases l with ⟨hk, hm⟩ | ⟨hk, c, hc, hcell⟩
  · exact wpAny_Name (wpAny_loadName_local I.ok.kind hk hn hm fin) hd
  · rcases hk with hk | hk
    · exact wpAny_Name (wpAny_loadName_cell I.ok.kind hk hc hcell fin) hd
    · exact wpAny_Name (wpAny_loadName_free I.ok.kind hk hc hcell fin hcd) hd
theorem pe_int {i j pos} : PE X (.Constant (.int i) j pos) (tC (.int i)) := fun _ _ _ H _ I h => wpAny_Constant_int ⟨.int i, H, I.tok _, ⟨_, rfl⟩, h⟩
theorem pe_bl {b j pos} : PE X (.Constant (.bool b) j pos) (tC (.bl b)) := fun _ _ _ H _ I h => Constant_bool ⟨.bl b, H, I, rfl, h⟩
theorem pe_non {j pos} : PE X (.Constant .none j pos) (tC .non) := fun _ _ _ H _ I h => Constant_none ⟨.non, H, I, rfl, h⟩
theorem pe_str {x j pos} : PE X (.Constant (.str x) j pos) (tC (.str x)) := fun _ _ _ H _ I h => Calls.Constant_str ⟨.str x, H, I.tok _, ⟨_, rfl⟩, h⟩
def Gl (X : Cx) (x : Str) : Prop := X.env.kindOf x = some .globalImplicit
theorem ld_glob {E : Value → Shared → Prop} {pins : List (Addr × Obj)} {s : Shared} {σ : St} {H : Hp} {x : Str} {u : Value} {pos : Pos} {Q : Value → Shared → Prop} (I : Inv X pins σ H s) (hg : Gl X x) (hm : X.mg x = some u) (h : Q u s)
    (hd : (x == ("__debug__" : Str)) = false := by decide) : wpAny (model X.prog X.w) X.A (eval (.Name x pos) X.env) Q E s :=
  Calls.Name_function_global I.ok.kind hg (Calls.loadGlobal_global (by rw [I.ok.glob]; exact I.mod.glob.keeps I.bk) hm h) hd
theorem ld_blt {E : Value → Shared → Prop} {pins : List (Addr × Obj)} {s : Shared} {σ : St} {H : Hp} {x : Str} {u : Value} {pos : Pos} {Q : Value → Shared → Prop} (I : Inv X pins σ H s) (hg : Gl X x) (hm : X.mg x = none) (hv : bootBuiltins x = some u) (h : Q u s)
    (hn : x ≠ "__name__" := by decide) (hd : (x == ("__debug__" : Str)) = false := by decide) : wpAny (model X.prog X.w) X.A (eval (.Name x pos) X.env) Q E s := by
  obtain ⟨mb, h1, h2⟩ := I.mod.blt
  exact Calls.Name_function_global I.ok.kind hg (Calls.loadGlobal_builtin (by rw [I.ok.glob]; exact I.mod.glob.keeps I.bk) hm (by rw [I.ok.blt]; exact h1.keeps I.bk) ((h2 x hn).trans hv) h) hd
theorem pe_glob {x : Str} {v : V} {u : Value} {pos : Pos} (hg : Gl X x) (hm : X.mg x = some u) (r : RelV v u) (hd : (x == ("__debug__" : Str)) = false := by decide) : PE X (.Name x pos) (tC v) :=
  fun _ _ _ H _ I h => ld_glob I hg hm ⟨v, H, I, r, h⟩ hd
variable {a b : Expr} {ta tb : TE} {pos : Pos}
def tB (t : TE) : TT := fun σ H Q => t σ H fun x H1 => ∃ c, x = .bl c ∧ Q c H1
theorem pt_val {e : Expr} {t : TE} (h : PE X e t) (he : ∀ whole, isTrue e X.env whole = (do let v ← whole; standAt e.pos; holding [v] (truthy v)) := by intro _; rfl) : PT X e (tB t) := by
  intro pins s σ H Q I hw
  refine isTrue_plain (thn (h pins s σ H _ I hw) fun v s1 ⟨x, H1, I1, r1, q1⟩ => ?_) (he _)
  obtain ⟨d, rfl, q⟩ := q1
  cases r1
  exact wpAny_truthy_bool ⟨H1, I1, q⟩
variable {tA tB' : TT} {rest : List Expr}
def tAnd (t u : TT) : TT := fun σ H Q => t σ H fun c H1 => if c = true then u σ H1 Q else Q false H1
def tOr (t u : TT) : TT := fun σ H Q => t σ H fun c H1 => if c = true then Q true H1 else u σ H1 Q
def tNot (t : TT) : TT := fun σ H Q => t σ H fun c H1 => Q (!c) H1
theorem pw_and1 (ha : PT X a tA) : PW X (.BoolOp .And [a] pos) tA := by
  intro wh pins s σ H Q I h
  refine isTrue_and (thn (ha pins s σ H Q I h) fun c s1 e => ?_)
  cases c with
  | true => exact isTrue_and_nil e
  | false => exact e
theorem pw_or1 (ha : PT X a tA) : PW X (.BoolOp .Or [a] pos) tA := by
  intro wh pins s σ H Q I h
  refine isTrue_or (thn (ha pins s σ H Q I h) fun c s1 e => ?_)
  cases c with
  | false => exact isTrue_or_nil e
  | true => exact e
theorem pw_and (ha : PT X a tA) (hb : PW X (.BoolOp .And (b :: rest) pos) tB') : PW X (.BoolOp .And (a :: b :: rest) pos) (tAnd tA tB') := by
  intro wh pins s σ H Q I h
  refine isTrue_and (thn (ha pins s σ H _ I h) fun c s1 ⟨H1, I1, q1⟩ => ?_)
  cases c with
  | true => exact hb wh pins s1 σ H1 Q I1 q1
  | false => exact ⟨H1, I1, q1⟩
theorem pw_or (ha : PT X a tA) (hb : PW X (.BoolOp .Or (b :: rest) pos) tB') : PW X (.BoolOp .Or (a :: b :: rest) pos) (tOr tA tB') := by
  intro wh pins s σ H Q I h
  refine isTrue_or (thn (ha pins s σ H _ I h) fun c s1 ⟨H1, I1, q1⟩ => ?_)
  cases c with
  | true => exact ⟨H1, I1, q1⟩
  | false => exact hb wh pins s1 σ H1 Q I1 q1
theorem pt_not (ha : PT X a tA) : PT X (.UnaryOp .Not a pos) (tNot tA) := by
  intro pins s σ H Q I h
  exact isTrue_not (ha pins s σ H (fun c H1 => Q (!c) H1) I h)
def tAndV (ta tb : TE) : TE := fun σ H Q => ta σ H fun x H1 => ∃ c, x = .bl c ∧ if c = true then tb σ H1 Q else Q (.bl false) H1
theorem pe_one {op} {t : TE} (h : PE X a t) : PE X (.BoolOp op [a] pos) t := fun pins s σ H Q I hw => BoolOp_one (h pins s σ H Q I hw)
theorem pe_and (ha : PE X a ta) (hb : PE X (.BoolOp .And (b :: rest) pos) tb) : PE X (.BoolOp .And (a :: b :: rest) pos) (tAndV ta tb) := by
  intro pins s σ H Q I h
  refine BoolOp_and (thn (ha pins s σ H _ I h) fun v s1 ⟨x, H1, I1, r1, q1⟩ => ?_)
  obtain ⟨c, rfl, q1⟩ := q1
  cases r1
  refine wpAny_truthy_bool ?_
  cases c with
  | true => exact hb pins s1 σ H1 Q I1 q1
  | false => exact ⟨.bl false, H1, I1, rfl, q1⟩
end
end L2
namespace L2
open PySem PySem.Spec PyProof.Rows
def SqL (K : PySem.W.Frag) (H : Hp) (a : Addr) (xs : List V) : Prop :=
  Rd H a (.lst xs) ∨
    ∃ (o : Obj) (its : Array Value) (n : Nat), K.lookup a = some o ∧ o.cls = .type "list" ∧ o.dict = none ∧ o.data = .seq its n ∧ its.size ≤ sizeLine ∧ Vals xs its.toList
def SqT (K : PySem.W.Frag) (H : Hp) (a : Addr) (xs : List V) : Prop :=
  Rd H a (.tup xs) ∨
    ∃ (o : Obj) (its : Array Value) (n : Nat), K.lookup a = some o ∧ o.cls = .type "tuple" ∧ o.data = .seq its n ∧ its.size ≤ sizeLine ∧ Vals xs its.toList
def absV : Value → Option V
  | .none => some .non
  | .bool b => some (.bl b)
  | .int i _ => some (.int i)
  | .str x _ => some (.str x)
  | .bytes b _ => some (.byt b)
  | .float b _ => some (.flt b)
  | .ref a => some (.ref a)
  | .type n => some (.ty n)
  | _ => none
theorem RelV.abs {x : V} {u : Value} (r : RelV x u) : absV u = some x := by
  cases x with
  | non => cases r; rfl
  | bl _ => cases r; rfl
  | int _ => obtain ⟨t, rfl⟩ := r; rfl
  | str _ => obtain ⟨t, rfl⟩ := r; rfl
  | byt _ => obtain ⟨t, rfl⟩ := r; rfl
  | flt _ => obtain ⟨t, rfl⟩ := r; rfl
  | ref _ => cases r; rfl
  | ty _ => cases r; rfl
theorem RelV.inj {x y : V} {u : Value} (r : RelV x u) (q : RelV y u) : x = y := Option.some.inj (r.abs.symm.trans q.abs)
theorem Vals.inj : ∀ {xs ys : List V} {us : List Value}, Vals xs us → Vals ys us → xs = ys
  | _, _, _, .nil, .nil => rfl
  | _, _, _, .cons r t, .cons r' t' => by rw [r.inj r', Vals.inj t t']
section
variable {X : Cx} {pins : List (Addr × Obj)} {σ : St} {H : Hp} {s : Shared} {a : Addr} {xs ys : List V}
theorem SqL.of {K : PySem.W.Frag} (h : H a = some (.lst xs)) : SqL K H a xs := .inl (.inl h)
theorem SqT.of {K : PySem.W.Frag} (h : H a = some (.tup xs)) : SqT K H a xs := .inl (.inl h)
theorem Inv.list (I : Inv X pins σ H s) (h : SqL X.K H a xs) : ∃ its : List Value, Vals xs its ∧ PlainL s.heap a its.toArray ∧ xs.length ≤ sizeLine := by
  rcases h with h | ⟨o, its, n, hk, hc, hd, hs, hz, r⟩
  · obtain ⟨z, its, n, r, e⟩ := h.ok I.hok
    exact ⟨its, r, ⟨_, n, e, rfl, rfl, rfl⟩, z⟩
  · refine ⟨its.toList, r, ⟨o, n, I.kIn a o hk, hc, hd, by simpa using hs⟩, ?_⟩
    have e := r.length
    simp only [Array.length_toList] at e
    omega
theorem Inv.tuple (I : Inv X pins σ H s) (h : SqT X.K H a xs) : ∃ its : List Value, Vals xs its ∧ IsTup s.heap a its.toArray ∧ xs.length ≤ sizeLine := by
  rcases h with h | ⟨o, its, n, hk, hc, hs, hz, r⟩
  · obtain ⟨z, its, r, p⟩ := h.ok I.hok
    exact ⟨its, r, p, z⟩
  · refine ⟨its.toList, r, ⟨o, I.kIn a o hk, hc, n, by simpa using hs⟩, ?_⟩
    have e := r.length
    simp only [Array.length_toList] at e
    omega
theorem Inv.list_inj (I : Inv X pins σ H s) (h : SqL X.K H a xs) (h' : SqL X.K H a ys) : xs = ys := by
  obtain ⟨its, r, ⟨o, n, e, _, _, d⟩, _⟩ := I.list h
  obtain ⟨its', r', ⟨o', n', e', _, _, d'⟩, _⟩ := I.list h'
  rw [e] at e'; cases e'
  rw [d] at d'
  injection d' with d1 _
  have : its = its' := by simpa using congrArg Array.toList d1
  subst this
  exact r.inj r'
theorem Inv.tuple_inj (I : Inv X pins σ H s) (h : SqT X.K H a xs) (h' : SqT X.K H a ys) : xs = ys := by
  obtain ⟨its, r, ⟨o, e, _, n, d⟩, _⟩ := I.tuple h
  obtain ⟨its', r', ⟨o', e', _, n', d'⟩, _⟩ := I.tuple h'
  rw [e] at e'; cases e'
  rw [d] at d'
  injection d' with d1 _
  have : its = its' := by simpa using congrArg Array.toList d1
  subst this
  exact r.inj r'
end
abbrev Cx.wish (X : Cx) (E : Value → Shared → Prop) : Cx := { X with xe := E }
abbrev Cx.nox (X : Cx) : Cx := X.wish fun _ _ => False
theorem Cx.Ok.wish {X : Cx} (ok : X.Ok) (E : Value → Shared → Prop) : (X.wish E).Ok :=
  ⟨ok.mod, ok.kind, ok.glob, ok.blt, ok.above, ok.inj, ok.has, ok.cab, ok.hd, ok.frames, ok.stk, ok.exf, ok.bs, ok.bsz, ok.noex, ok.exfs, ok.funs, ok.frf⟩
theorem Cx.Ok.unwish {X : Cx} {E : Value → Shared → Prop} (ok : (X.wish E).Ok) : X.Ok :=
  ⟨ok.mod, ok.kind, ok.glob, ok.blt, ok.above, ok.inj, ok.has, ok.cab, ok.hd, ok.frames, ok.stk, ok.exf, ok.bs, ok.bsz, ok.noex, ok.exfs, ok.funs, ok.frf⟩
section
variable {X : Cx} {pins : List (Addr × Obj)} {σ : St} {H : Hp} {s : Shared} {E : Value → Shared → Prop}
theorem Inv.wish (I : Inv X pins σ H s) (E : Value → Shared → Prop) : Inv (X.wish E) pins σ H s := ⟨I.ok.wish E, I.os, I.bare, I.base, I.loc, I.cell, I.free, I.freeC, I.pin, I.hok, I.len⟩
theorem Inv.unwish (I : Inv (X.wish E) pins σ H s) : Inv X pins σ H s := ⟨I.ok.unwish, I.os, I.bare, I.base, I.loc, I.cell, I.free, I.freeC, I.pin, I.hok, I.len⟩
theorem SP.unwish {D : Ends} {f : Flow} {s' : Shared} (h : SP (X.wish E) pins D f s') : SP X pins D f s' := by
  cases f with
  | next => obtain ⟨σ', H', I, q⟩ := h; exact ⟨σ', H', I.unwish, q⟩
  | brk => obtain ⟨σ', H', I, q⟩ := h; exact ⟨σ', H', I.unwish, q⟩
  | cont => obtain ⟨σ', H', I, q⟩ := h; exact ⟨σ', H', I.unwish, q⟩
  | ret u => obtain ⟨v, σ', H', I, r, q⟩ := h; exact ⟨v, σ', H', I.unwish, r, q⟩
theorem PE.nox {e : Expr} {t : TE} (h : PE X.nox e t) : PE X e t := fun pins s σ H Q I hw =>
  wpAny_mono (h pins s σ H Q (I.wish _) hw) (fun _ _ ⟨v, H', I', r, q⟩ => ⟨v, H', I'.unwish, r, q⟩) fun _ _ z => False.elim z
theorem PT.nox {e : Expr} {t : TT} (h : PT X.nox e t) : PT X e t := fun pins s σ H Q I hw =>
  wpAny_mono (h pins s σ H Q (I.wish _) hw) (fun _ _ ⟨H', I', q⟩ => ⟨H', I'.unwish, q⟩) fun _ _ z => False.elim z
theorem PSs.nox {st : List Stmt} {t : TS} (h : PSs X.nox st t) : PSs X st t := fun pins s σ H D I hw =>
  wpAny_mono (h pins s σ H D (I.wish _) hw) (fun _ _ q => q.unwish) fun _ _ z => False.elim z
end
section
variable {X : Cx} {st : Stmt} {rest : List Stmt} {t u : TS} {e : Expr} {te : TE} {pos : Pos}
def tNext : TS := fun D σ H => D.nx σ H
def tSeq (t u : TS) : TS := fun D σ H => t { D with nx := u D } σ H
theorem pss_nil : PSs X [] tNext := fun _ _ σ H _ I h => wpAny_execs_nil ⟨σ, H, I, h⟩
theorem pss_cons (h1 : PS X st t) (h2 : PSs X rest u) : PSs X (st :: rest) (tSeq t u) := by
  intro pins s σ H D I h
  refine wpAny_execs_cons (thn (h1 pins s σ H { D with nx := u D } I h) fun f s1 q => ?_)
  cases f with
  | next =>
    obtain ⟨σ', H', I', q⟩ := q
    exact h2 pins s1 σ' H' D I' q
  | ret v => exact q
  | brk => exact q
  | cont => exact q
theorem pss_one (h1 : PS X st t) : PSs X [st] t := by
  intro pins s σ H D I h
  refine wpAny_execs_cons (thn (h1 pins s σ H D I h) fun f s1 q => ?_)
  cases f with
  | next => exact wpAny_execs_nil q
  | ret v => exact q
  | brk => exact q
  | cont => exact q
theorem Inv.quiet {pins : List (Addr × Obj)} {σ : St} {H : Hp} {s : Shared} (I : Inv X pins σ H s) : interactive X.env = false := by simp [interactive, I.ok.kind]
def tDrop (te : TE) : TS := fun D σ H => te σ H fun _ H1 => D.nx σ H1
theorem ps_expr (he : PE X e te) (hs : swapsWith e none pos.line X.env = pure false := by rfl) : PS X (.Expr e pos) (tDrop te) := by
  intro pins s σ H D I h
  exact wpAny_Expr_any (thn (he pins s σ H _ I h) fun v s1 ⟨x, H1, I1, r1, q1⟩ => ⟨σ, H1, I1, q1⟩) I.quiet hs
def tRet (te : TE) : TS := fun D σ H => te σ H D.rt
theorem ps_ret (he : PE X e te) : PS X (.Return (some e) pos) (tRet te) := by
  intro pins s σ H D I h
  exact wpAny_Return_some (thn (he pins s σ H _ I h) fun v s1 ⟨x, H1, I1, r1, q1⟩ => ⟨x, σ, H1, I1, r1, q1⟩)
def tIfS (c : TT) (t u : TS) : TS := fun D σ H => c σ H fun b H1 => if b = true then t D σ H1 else u D σ H1
theorem ps_if {c : Expr} {a b : List Stmt} {tc : TT} (hc : PT X c tc) (ha : PSs X a t) (hb : PSs X b u) : PS X (.If c a b pos) (tIfS tc t u) := by
  intro pins s σ H D I h
  refine wpAny_If (thn (hc pins s σ H _ I h) fun d s1 ⟨H1, I1, q1⟩ => ?_)
  cases d with
  | true => exact ha pins s1 σ H1 D I1 q1
  | false => exact hb pins s1 σ H1 D I1 q1
end
abbrev TG := V → St → Hp → (St → Hp → Prop) → Prop
abbrev TGs := List V → St → Hp → (St → Hp → Prop) → Prop
def PG (X : Cx) (target : Expr) (t : TG) : Prop :=
  ∀ (pins : List (Addr × Obj)) (s : Shared) (σ : St) (H : Hp) (v : V) (u : Value) (Q : St → Hp → Prop), Inv X pins σ H s → RelV v u → t v σ H Q →
    wpAny (model X.prog X.w) X.A (assign target X.env u) (fun _ s' => ∃ σ' H', Inv X pins σ' H' s' ∧ Q σ' H') X.xe s
def PGs (X : Cx) (ts : List Expr) (t : TGs) : Prop :=
  ∀ (pins : List (Addr × Obj)) (s : Shared) (σ : St) (H : Hp) (vs : List V) (us : List Value) (Q : St → Hp → Prop), Inv X pins σ H s → Vals vs us → t vs σ H Q →
    wpAny (model X.prog X.w) X.A (assignInOrder ((assignEach ts X.env).map (·.2)) us) (fun _ s' => ∃ σ' H', Inv X pins σ' H' s' ∧ Q σ' H') X.xe s
abbrev TSet := V → V → V → Hp → (Hp → Prop) → Prop
def PSet (X : Cx) (t : TSet) : Prop :=
  ∀ (pins : List (Addr × Obj)) (s : Shared) (σ : St) (H : Hp) (o i v : V) (ov iv u : Value) (Q : Hp → Prop), Inv X pins σ H s → RelV o ov → RelV i iv → RelV v u → t o i v H Q →
    wpAny (model X.prog X.w) X.A (setItem ov iv u) (fun _ s' => ∃ H', Inv X pins σ H' s' ∧ Q H') X.xe s
section
variable {X : Cx} {pos : Pos}
def gName (i : Nat) : TG := fun v σ H Q => Q (σ.set i (some v)) H
theorem pg_name {i : Nat} {x : Str} (hN : X.N.Nodup) (hi : X.N[i]? = some x) (hx : Loc X.env.scope x) (hf : X.fn x = true ∨ X.env.scope.names.lookup x = some .local := by first | exact .inl rfl | exact .inr rfl | assumption) : PG X (.Name x pos) (gName i) := by
  intro pins s σ H v u Q I r h
  exact wpAny_assign_Name (store_ok I hN hi hx r (fun s' I' => ⟨_, H, I', h⟩) hf)
def gNil : TGs := fun vs σ H Q => vs = [] ∧ Q σ H
def gCons (t : TG) (u : TGs) : TGs := fun vs σ H Q => ∃ v r, vs = v :: r ∧ t v σ H fun σ' H' => u r σ' H' Q
theorem pgs_nil : PGs X [] gNil := by
  intro pins s σ H vs us Q I r h
  obtain ⟨e, h⟩ := h
  subst e
  cases r
  exact assignInOrder_nil ⟨σ, H, I, h⟩
theorem pgs_cons {e : Expr} {es : List Expr} {t : TG} {u : TGs} (h1 : PG X e t) (h2 : PGs X es u)
    (hs : (assignEach (e :: es) X.env).map (·.2) = assign e X.env :: (assignEach es X.env).map (·.2) := by rfl) : PGs X (e :: es) (gCons t u) := by
  intro pins s σ H vs us Q I r h
  obtain ⟨v, vr, e1, h⟩ := h
  subst e1
  cases r with
  | cons r rr =>
    rw [hs]
    refine assignInOrder_cons (thn (h1 pins s σ H _ _ _ I r h) fun _ s1 ⟨σ1, H1, I1, q1⟩ => ?_)
    exact h2 pins s1 σ1 H1 _ _ Q I1 rr q1
def gTup (K : PySem.W.Frag) (n : Nat) (t : TGs) : TG := fun v σ H Q => ∃ a xs, v = .ref a ∧ SqT K H a xs ∧ xs.length = n ∧ t xs σ H Q
theorem pg_tup {es : List Expr} {k : Nat} {t : TGs} {n : Nat} (hc : X.calm = true) (h : PGs X es t)
    (hn : (assignEach es X.env).length = n := by rfl) (hst : (assignEach es X.env).findIdx? (·.1) = none := by rfl) : PG X (.Tuple es k pos) (gTup X.K n t) := by
  intro pins s σ H v u Q I r hw
  obtain ⟨a, xs, e1, hq, hl, hw⟩ := hw
  subst e1
  cases r
  obtain ⟨its, rv, ht, hz⟩ := I.tuple hq
  refine assign_Tuple_tuple (I.ok.hd hc) ht (by simp [hn, ← hl, rv.length]) hst fun h' hx => ?_
  have I1 : Inv X pins σ H { s with heap := h' } := I.kept (t' := s.toks) fun b o e => hx b o (Nat.ne_of_lt (Heap.lt_size e)) e
  exact h pins _ σ H xs _ Q I1 (by simpa using rv) hw
def gSub (to ti : TE) (t : TSet) : TG := fun v σ H Q => to σ H fun o H1 => ti σ H1 fun i H2 => t o i v H2 fun H3 => Q σ H3
theorem pg_sub {o i : Expr} {to ti : TE} {t : TSet} (ho : PE X o to) (hi : PE X i ti) (hs : PSet X t)
    (ha : ∀ v, assign (.Subscript o i pos) X.env v = (do
      let ov ← holding [v] (eval o X.env)
      let iv ← holding [v, ov] (eval i X.env)
      standAt pos
      holding [v, ov, iv] (setItem ov iv v)
      release [v, ov, iv] []) := by intro _; rfl) : PG X (.Subscript o i pos) (gSub to ti t) := by
  intro pins s σ H v u Q I r h
  rw [ha]
  refine wpAny_bind (wpAny_holding (thn (ho pins s σ H _ I h) fun ov s1 ⟨x, H1, I1, r1, q1⟩ => ?_))
  refine wpAny_bind (wpAny_holding (thn (hi pins s1 σ H1 _ I1 q1) fun iv s2 ⟨y, H2, I2, r2, q2⟩ => ?_))
  refine wpAny_bind (wpAny_standAt (wpAny_bind (wpAny_holding (thn (hs pins s2 σ H2 x y v ov iv u _ I2 r1 r2 r q2) fun _ s3 ⟨H3, I3, q3⟩ => ?_))))
  exact wpAny_release ⟨σ, H3, I3, q3⟩
def tAsg (te : TE) (g : TG) : TS := fun D σ H => te σ H fun x H1 => g x σ H1 D.nx
theorem ps_asg {tg e : Expr} {te : TE} {g : TG} (he : PE X e te) (hg : PG X tg g) (hs : swapsWithSole [tg] e pos.line X.env = pure false := by rfl) (hw : swappedStores [tg] e X.env = pure none := by rfl)
    (h1 : (assignEach [tg] X.env).map (·.2) = [assign tg X.env] := by rfl) : PS X (.Assign [tg] e pos) (tAsg te g) := by
  intro pins s σ H D I h
  refine wpAny_Assign_stores (thn (he pins s σ H _ I h) fun v s1 ⟨x, H1, I1, r1, q1⟩ => ?_) hs hw
  rw [h1]
  exact thn (hg pins s1 σ H1 x v _ I1 r1 q1) fun _ s2 q => q
theorem ps_set {i : Nat} {x : Str} {e : Expr} {te : TE} {pos' : Pos} (hN : X.N.Nodup) (hi : X.N[i]? = some x) (hx : Loc X.env.scope x) (he : PE X e te) (hs : swapsWith e (some (.Name x pos')) pos.line X.env = pure false := by rfl) (hf : X.fn x = true ∨ X.env.scope.names.lookup x = some .local := by first | exact .inl rfl | exact .inr rfl | assumption) :
    PS X (.Assign [.Name x pos'] e pos) (tAsg te (gName i)) := by
  intro pins s σ H D I h
  refine wpAny_Assign_Name (thn (he pins s σ H _ I h) fun v s1 ⟨y, H1, I1, r1, q1⟩ => ?_) hs
  exact store_ok I1 hN hi hx r1 (fun s2 I2 => ⟨_, H1, I2, q1⟩) hf
def tPar (i j : Nat) (ta : TA) : TS := fun D σ H => ta σ H fun vs H1 => ∃ v w, vs = [v, w] ∧ D.nx ((σ.set i (some v)).set j (some w)) H1
theorem ps_par {i j : Nat} {x y : Str} {a b : Expr} {ta : TA} {px py pt : Pos} {kt k2 pt2} (hc : X.calm = true) (hN : X.N.Nodup) (hi : X.N[i]? = some x) (hj : X.N[j]? = some y) (hij : i ≠ j)
    (hx : X.env.scope.names.lookup x = some .local) (hy : X.env.scope.names.lookup y = some .local) (ha : PA X [a, b] ta)
    (hw : swappedStores [.Tuple [.Name x px, .Name y py] kt pt] (.Tuple [a, b] k2 pt2) X.env = pure (some [x, y]))
    (hs : swapsWithSole [.Tuple [.Name x px, .Name y py] kt pt] (.Tuple [a, b] k2 pt2) pos.line X.env = pure false := by rfl) :
    PS X (.Assign [.Tuple [.Name x px, .Name y py] kt pt] (.Tuple [a, b] k2 pt2) pos) (tPar i j ta) := by
  intro pins s σ H D I h
  rw [exec_Assign_arm]
  refine wpAny_bind (wpAny_standAt ?_)
  rw [hs]
  refine wpAny_bind (wpAny_pure ?_)
  rw [if_neg (by decide)]
  refine wpAny_bind (Tuple_ (thn (ha _ pins s σ H _ I h) fun us s1 ⟨vs, H1, I1, r1, q1⟩ => ?_))
  obtain ⟨v, w, e1, q1⟩ := q1
  subst e1
  obtain ⟨u1, u2, rfl, rv, rw'⟩ : ∃ u1 u2, us = [u1, u2] ∧ RelV v u1 ∧ RelV w u2 := by
    cases r1 with
    | cons p q =>
      cases q with
      | cons p' q' =>
        cases q'
        exact ⟨_, _, rfl, p, p'⟩
  refine wpAny_newObj_type ?_ (by show 2 ≤ sizeLine; decide)
  have I2 : Inv X pins σ H1 { s1 with heap := s1.heap.push { cls := .type "tuple", data := .seq [u1, u2].toArray } } := I1.kept (t' := s1.toks) fun b o e => Heap.get?_push_of_some _ e
  rw [hw]
  refine wpAny_bind (wpAny_pure ?_)
  show wpAny (model X.prog X.w) X.A (do rule "assign.swapped-stores"; let items ← unpackItems (.ref s1.heap.objs.size) 2 none; assignInOrder [fun v => bindName X.env y v, fun v => bindName X.env x v] items.reverse; pure Flow.next) _ _ _
  refine wpAny_bind (wpAny_rule (wpAny_bind (unpackItems_tuple (items := #[u1, u2]) (I.ok.hd hc) (IsTup.new s1.heap _) fun h' hx' => ?_)))
  have I3 := I2.kept (h' := h') (t' := s1.toks) fun b o e => hx' b o (Nat.ne_of_lt (Heap.lt_size e)) e
  show wpAny _ _ (assignInOrder [fun v => bindName X.env y v, fun v => bindName X.env x v] [u2, u1] >>= fun _ => pure Flow.next) _ _ _
  refine wpAny_bind (assignInOrder_cons (wpAny_bindName (store_ok I3 hN hj (.inl hy) rw' (fun s2 I4 => ?_) (.inr hy))))
  refine assignInOrder_cons (wpAny_bindName (store_ok I4 hN hi (.inl hx) rv (fun s3 I5 => assignInOrder_nil (wpAny_pure ?_)) (.inr hx)))
  rw [List.set_comm _ _ (Ne.symm hij)] at I5
  exact ⟨_, H1, I5, q1⟩
end
section
variable {X : Cx} {pos : Pos}
def tWhile (c : TT) (tb : TS) : TS := fun D σ H => ∃ W : Nat → St → Hp → Prop, (∃ m, W m σ H) ∧ ∀ m σ H, W m σ H →
  c σ H fun b H1 => if b = true then ∃ N : St → Hp → Prop, (∀ σ' H', N σ' H' → ∃ m', m' < m ∧ W m' σ' H') ∧ tb { D with nx := N, ct := N, bk := D.nx } σ H1 else D.nx σ H1
theorem ps_while {c : Expr} {body : List Stmt} {tc : TT} {tb : TS} (hp : PassesOwn (model X.prog X.w) X.A X.env X.xe) (hc : PT X c tc) (hb : PSs X body tb) : PS X (.While c body [] pos) (tWhile tc tb) := by
  intro pins s σ H D I h
  obtain ⟨W, ⟨m0, w0⟩, turn⟩ := h
  refine wpAny_While (codeAny_whileLoop (fun n s' => ∃ σ' H', Inv X pins σ' H' s' ∧ W n σ' H') ?_ m0 ⟨σ, H, I, w0⟩)
  rintro n s1 ⟨σ1, H1, I1, w1⟩
  refine wpAny_passesOwn hp (thn (hc pins s1 σ1 H1 _ I1 (turn n σ1 H1 w1)) fun b s2 ⟨H2, I2, q2⟩ => ?_)
  cases b with
  | true =>
    obtain ⟨N, hN, q2⟩ := q2
    rw [if_pos rfl]
    refine wpAny_passesOwn hp (thn (hb pins s2 σ1 H2 _ I2 q2) fun f s3 q3 => ?_)
    cases f with
    | next =>
      obtain ⟨σ3, H3, I3, n3⟩ := q3
      obtain ⟨m', hm, w3⟩ := hN σ3 H3 n3
      exact ⟨m', hm, σ3, H3, I3, w3⟩
    | cont =>
      obtain ⟨σ3, H3, I3, n3⟩ := q3
      obtain ⟨m', hm, w3⟩ := hN σ3 H3 n3
      exact ⟨m', hm, σ3, H3, I3, w3⟩
    | brk => exact q3
    | ret v => exact q3
  | false =>
    rw [if_neg Bool.false_ne_true]
    exact wpAny_execs_nil ⟨σ1, H2, I2, q2⟩
end
structure It where
  go : Nat → Hp → Prop
  yld : Nat → Hp → V → Hp → Prop
  stop : Nat → Hp → Prop
def FpOk (X : Cx) (pins : List (Addr × Obj)) (H : Hp) (b : Addr) : Prop :=
  H b = none ∧ b ≠ X.env.locals ∧ b ∉ X.fs ∧ (b ∈ X.ex ∨ X.s₀.heap.objs.size ≤ b) ∧ (∀ x c, X.env.cells.lookup x = some c → c ≠ b) ∧ ∀ p ∈ X.pn ++ pins, p.1 ≠ b
theorem Inv.fpOk {X : Cx} {pins : List (Addr × Obj)} {σ : St} {H H' : Hp} {s : Shared} {b : Addr} (I : Inv X pins σ H s) (hb : s.heap.objs.size ≤ b) (hn : H' b = none) : FpOk X pins H' b := by
  refine ⟨hn, Nat.ne_of_gt (Nat.lt_of_lt_of_le I.lt hb), I.nofs hb, .inr (Nat.le_trans I.sz hb), fun x c e z => ?_, fun p hp z => ?_⟩
  · obtain ⟨v, q⟩ := I.cell x c e
    exact absurd (Nat.lt_of_lt_of_le q.lt (by rw [z]; exact hb)) (Nat.lt_irrefl _)
  · exact absurd (Nat.lt_of_lt_of_le (Heap.lt_size (I.pin p hp).1) (by rw [z]; exact hb)) (Nat.lt_irrefl _)
structure Turn (P : Program) (w : World) (K : PySem.W.Frag) (tg : Expr) (J : It) (fp : List Addr) (it : Addr) (tn : Nat → Heap → Prop) : Prop where
  mem : it ∈ fp
  obj : ∀ i h, tn i h → ∀ b ∈ fp, ∃ o, h.get? b = some o ∧ ∀ v, o.data ≠ .cell v
  keep : ∀ i h h', tn i h → (∀ b ∈ fp, ∀ o, h.get? b = some o → h'.get? b = some o) → tn i h'
  item : ∀ (X : Cx), X.prog = P → X.w = w → X.K = K → X.calm = true → ∀ (i : Nat) (pins : List (Addr × Obj)) (s : Shared) (σ : St) (H : Hp) (E : Value → Shared → Prop), Inv X pins σ H s → (∀ b ∈ fp, FpOk X pins H b) → tn i s.heap → J.go i H →
    wpAny (model P w) X.A (pyNext (.ref it)) (fun r s1 => ∃ u, r = some u ∧
      wpAny (model P w) X.A (letOwnedTupleGo tg (.ref it) u) (fun _ s2 => ∃ x H', Inv X pins σ H' s2 ∧ RelV x u ∧ J.yld i H x H' ∧ tn (i + 1) s2.heap ∧ ∀ b ∈ fp, H' b = none) E s1) E s
  done : ∀ (X : Cx), X.prog = P → X.w = w → X.K = K → X.calm = true → ∀ (i : Nat) (pins : List (Addr × Obj)) (s : Shared) (σ : St) (H : Hp) (E : Value → Shared → Prop), Inv X pins σ H s → (∀ b ∈ fp, FpOk X pins H b) → tn i s.heap → J.stop i H →
    wpAny (model P w) X.A (pyNext (.ref it)) (fun r s1 => r = none ∧ Inv X pins σ H s1) E s
  self : ∀ (A : Around) (i : Nat) (s : Shared) (Q : Value → Shared → Prop) (E : Value → Shared → Prop), tn i s.heap → Q (.ref it) s → wpAny (model P w) A (pyIter (.ref it)) Q E s
abbrev TI := St → Hp → (It → Hp → Prop) → Prop
def PIE (X : Cx) (pins : List (Addr × Obj)) (σ : St) (tg : Expr) (R : It → Hp → Prop) (itv : Value) (s2 : Shared) : Prop :=
  ∃ (it : Addr) (fp : List Addr) (tn : Nat → Heap → Prop) (J : It) (H' : Hp), itv = .ref it ∧ Inv X pins σ H' s2 ∧ Turn X.prog X.w X.K tg J fp it tn ∧ tn 0 s2.heap ∧ (∀ b ∈ fp, FpOk X pins H' b) ∧ R J H'
def PI (X : Cx) (tg iter : Expr) (wi : TI) : Prop :=
  ∀ (pins : List (Addr × Obj)) (s : Shared) (σ : St) (H : Hp) (R : It → Hp → Prop), Inv X pins σ H s → wi σ H R →
    wpAny (model X.prog X.w) X.A (eval iter X.env) (fun v s1 => wpAny (model X.prog X.w) X.A (pyIter v) (PIE X pins σ tg R) X.xe s1) X.xe s
theorem go_of {M : Model} {A : Around} {E : Value → Shared → Prop} {s : Shared} {tg : Expr} {it : Addr} {u : Value} {o : Obj} {n : String} {vs : Array Value} {Q : Unit → Shared → Prop} (ho : s.heap.get? it = some o) (hc : o.cls = .type n) (hd : o.data = .fields vs)
    (hn : ["enumerate", "zip", "dict_itemiterator", "dict_reverseitemiterator", "odict_iterator", "itertools.zip_longest", "itertools.pairwise"].contains n = false) (hQ : Q () s) : wpAny M A (letOwnedTupleGo tg (.ref it) u) Q E s := by
  unfold letOwnedTupleGo
  cases tg <;> first
    | exact wpAny_pure hQ
    | (cases u <;> first
        | exact wpAny_pure hQ
        | (refine wpAny_bind (wpAny_load ho ?_)
           rw [hc, hd]
           show wpAny M A (if (["enumerate", "zip", "dict_itemiterator", "dict_reverseitemiterator", "odict_iterator", "itertools.zip_longest", "itertools.pairwise"].contains n && vs[0]? == some (rawInt _)) = true then _ else _) Q E s
           rw [if_neg (by intro h; rw [hn, Bool.false_and] at h; cases h)]
           exact wpAny_pure hQ))
def Itl (K : PySem.W.Frag) (a : Addr) : It :=
  ⟨fun i H => ∃ xs x, SqL K H a xs ∧ xs[i]? = some x, fun i H x H' => H' = H ∧ ∀ xs, SqL K H a xs → xs[i]? = some x, fun i H => ∃ xs, SqL K H a xs ∧ xs.length ≤ i⟩
def Itr (lo : Int) (n : Nat) : It := ⟨fun i _ => i < n, fun i H x H' => H' = H ∧ x = .int (lo + i), fun i _ => n ≤ i⟩
theorem turn_list {P : Program} {w : World} {K : PySem.W.Frag} {tg : Expr} (a it : Addr) : Turn P w K tg (Itl K a) [it] it (fun i h => h.IsListIter it a i) where
  mem := by simp
  obj := fun i h st b hb => by
    have e : b = it := by simpa using hb
    subst e
    obtain ⟨o, e, c, d⟩ := st
    exact ⟨o, e, fun v z => by rw [d] at z; cases z⟩
  keep := fun i h h' st k => st.at fun o e => k it (by simp) o e
  item := by
    intro X hP hw hK hc i pins s σ H E I hf st hg
    subst hP hw hK
    obtain ⟨xs, x, hq, hx⟩ := hg
    obtain ⟨its, rv, p, hz⟩ := I.list hq
    obtain ⟨u, hu, ru⟩ := rv.get hx
    obtain ⟨f0, f1, f2, f3, f4, f5⟩ := hf it (by simp)
    refine wpAny_pyNext_list_item st p.isList (x := u) (by simpa using hu) fun h' st' sb => ?_
    have I1 : Inv X pins σ H { s with heap := h' } := I.turned (t' := s.toks) (fun b o hb e => (sb.2 b hb).trans e) f0 f1 f3 f4 f5
    obtain ⟨o, e, c, d⟩ := id st'
    exact ⟨u, rfl, go_of (s := { s with heap := h' }) e c d (by decide) ⟨x, H, I1, ru, ⟨rfl, fun ys hy => by rw [I.list_inj hy hq]; exact hx⟩, st', fun b hb => (hf b hb).1⟩⟩
  done := by
    intro X hP hw hK hc i pins s σ H E I hf st hg
    subst hP hw hK
    obtain ⟨xs, hq, hx⟩ := hg
    obtain ⟨its, rv, p, hz⟩ := I.list hq
    obtain ⟨f0, f1, f2, f3, f4, f5⟩ := hf it (by simp)
    have hl := rv.length
    exact wpAny_pyNext_list_end (I.ok.hd hc) st p.isList (by simp; omega) fun h' eb => ⟨rfl, I.turned (t' := s.toks) (fun b o hb e => eb b o hb e) f0 f1 f3 f4 f5⟩
  self := fun _ _ _ _ _ st h => wpAny_pyIter_listiter st h
theorem turn_range {P : Program} {w : World} {K : PySem.W.Frag} {tg : Expr} (it : Addr) (lo : Int) (n : Nat) : Turn P w K tg (Itr lo n) [it] it (fun i h => IsRangeIter h it (lo + (i : Nat) * 1) ((n : Int) - (i : Nat)) 1) where
  mem := by simp
  obj := fun i h st b hb => by
    have e : b = it := by simpa using hb
    subst e
    exact ⟨_, st, fun v z => by
      have z' : Data.fields _ = Data.cell v := z
      cases z'⟩
  keep := fun i h h' st k => k it (by simp) _ st
  item := by
    intro X hP hw hK hc i pins s σ H E I hf st hg
    subst hP hw hK
    obtain ⟨f0, f1, f2, f3, f4, f5⟩ := hf it (by simp)
    have W := Walks.range (prog := X.prog) (w := X.w) (I.ok.hd hc) it lo 1 n
    refine W.item i s _ _ hg st fun v h' tk hv st' kk => ?_
    obtain ⟨t, rfl⟩ := hv
    have I1 : Inv X pins σ H { s with heap := h', toks := tk } := I.turned (fun b o hb e => kk b o (by simpa using hb) e) f0 f1 f3 f4 f5
    refine ⟨_, rfl, go_of (s := { s with heap := h', toks := tk }) (n := "range_iterator") st' rfl rfl (by decide) ⟨.int (lo + i), H, I1, ⟨t, ?_⟩, ⟨rfl, rfl⟩, st', fun b hb => (hf b hb).1⟩⟩
    rw [Int.mul_one]
  done := by
    intro X hP hw hK hc i pins s σ H E I hf st hg
    subst hP hw hK
    obtain ⟨f0, f1, f2, f3, f4, f5⟩ := hf it (by simp)
    exact wpAny_pyNext_range_end (I.ok.hd hc) st (by have : n ≤ i := hg; omega) fun h' eb => ⟨rfl, I.turned (t' := s.toks) (fun b o hb e => eb b o hb e) f0 f1 f3 f4 f5⟩
  self := fun _ _ _ _ _ st h => wpAny_pyIter_rangeiter st h
end L2
namespace L2
open PySem PySem.Spec PyProof.Rows
section
variable {X : Cx} {tg : Expr}
def iList (K : PySem.W.Frag) (tl : TE) : TI := fun σ H R => tl σ H fun x H1 => ∃ a, x = .ref a ∧ (∃ xs, SqL K H1 a xs) ∧ R (Itl K a) H1
theorem pi_list {l : Expr} {tl : TE} (hl : PE X l tl) : PI X tg l (iList X.K tl) := by
  intro pins s σ H R I h
  refine thn (hl pins s σ H _ I h) fun v s1 ⟨x, H1, I1, r1, q1⟩ => ?_
  obtain ⟨a, e, ⟨xs, hq⟩, q⟩ := q1
  subst e
  cases r1
  obtain ⟨its, rv, p, hz⟩ := I1.list hq
  refine wpAny_pyIter_list p.isList ?_
  refine ⟨s1.heap.objs.size, [s1.heap.objs.size], _, _, H1, rfl, I1.kept (t' := s1.toks) fun b o e => Heap.get?_push_of_some _ e, turn_list a _, ⟨_, Heap.get?_push_size _ rfl, rfl, rfl⟩, fun b hb => ?_, q⟩
  have e : b = s1.heap.objs.size := by simpa using hb
  subst e
  exact I1.fpOk (Nat.le_refl _) (I1.hok.fresh (Nat.le_refl _))
theorem range_it {pins : List (Addr × Obj)} {σ : St} {H : Hp} {s : Shared} {R : It → Hp → Prop} {E : Value → Shared → Prop} {lo hi : Int} {t u v : Tok} {tk : Nat} (I : Inv X pins σ H s) (h1 : -(2 ^ 62) ≤ lo) (h2 : lo < 2 ^ 62) (h3 : -(2 ^ 62) ≤ hi) (h4 : hi < 2 ^ 62)
    (q : R (Itr lo (hi - lo).toNat) H) : wpAny (model X.prog X.w) X.A (pyIter (.ref s.heap.objs.size)) (PIE X pins σ tg R) E { s with heap := s.heap.push { cls := .type "range", data := .fields #[.int lo t, .int hi u, .int 1 v] }, toks := tk } := by
  refine wpAny_pyIter_range (IsRange.new ..) (small_one h1 h2 h3 h4) ?_
  have I1 : Inv X pins σ H { s with heap := s.heap.push { cls := .type "range", data := .fields #[.int lo t, .int hi u, .int 1 v] }, toks := tk } := I.kept fun b o e => Heap.get?_push_of_some _ e
  refine ⟨(s.heap.push { cls := .type "range", data := .fields #[.int lo t, .int hi u, .int 1 v] }).objs.size, [(s.heap.push { cls := .type "range", data := .fields #[.int lo t, .int hi u, .int 1 v] }).objs.size], _, _, H, rfl,
    I1.kept (t' := tk) fun b o e => Heap.get?_push_of_some _ e, turn_range _ lo (hi - lo).toNat, ?_, fun b hb => ?_, q⟩
  · have e1 : lo + ((0 : Nat) : Int) * 1 = lo := by simp
    have e2 : (((hi - lo).toNat : Nat) : Int) - ((0 : Nat) : Int) = Builtin.Range.rangeSize lo hi 1 := by rw [rangeSize_one]; split <;> omega
    show IsRangeIter _ _ (lo + ((0 : Nat) : Int) * 1) ((((hi - lo).toNat : Nat) : Int) - ((0 : Nat) : Int)) 1
    rw [e1, e2]
    exact Heap.get?_push_size _ rfl
  · have e : b = (s.heap.push { cls := .type "range", data := .fields #[.int lo t, .int hi u, .int 1 v] }).objs.size := by simpa using hb
    subst e
    exact I1.fpOk (Nat.le_refl _) (I1.hok.fresh (Nat.le_refl _))
def iRng1 (ta : TA) : TI := fun σ H R => ta σ H fun vs H1 => ∃ j : Int, vs = [.int j] ∧ -(2 ^ 62) ≤ j ∧ j < 2 ^ 62 ∧ R (Itr 0 j.toNat) H1
def iRng2 (ta : TA) : TI := fun σ H R => ta σ H fun vs H1 => ∃ i j : Int, vs = [.int i, .int j] ∧ (-(2 ^ 62) ≤ i ∧ i < 2 ^ 62 ∧ -(2 ^ 62) ≤ j ∧ j < 2 ^ 62) ∧ R (Itr i (j - i).toNat) H1
theorem pi_range1 {a : Expr} {ta : TA} {p pos : Pos} (hg : Gl X "range") (hm : X.mg "range" = none) (ha : PA X [a] ta) (hs : starEach [a] X.env = [(false, eval a X.env)] := by rfl) : PI X tg (.Call (.Name "range" p) [a] [] pos) (iRng1 ta) := by
  intro pins s σ H R I h
  refine Call_ (ld_blt I hg hm boot_range (PyProof.Rows.callWith_type1 (thn (ha pos pins s σ H _ I h) fun us s1 ⟨vs, H1, I1, r1, q1⟩ => ?_) hs rfl))
  obtain ⟨j, e, q1, q2, q⟩ := q1
  subst e
  cases r1 with
  | cons r rr =>
    cases rr
    obtain ⟨t, rfl⟩ := r
    exact call_range_1 (range_it I1 (by omega) (by omega) q1 q2 (by simpa using q))
theorem pi_range2 {a b : Expr} {ta : TA} {p pos : Pos} (hg : Gl X "range") (hm : X.mg "range" = none) (ha : PA X [a, b] ta) (hs : starEach [a, b] X.env = [(false, eval a X.env), (false, eval b X.env)] := by rfl) (hs2 : starEach [b] X.env = [(false, eval b X.env)] := by rfl) :
    PI X tg (.Call (.Name "range" p) [a, b] [] pos) (iRng2 ta) := by
  intro pins s σ H R I h
  refine Call_ (ld_blt I hg hm boot_range (PyProof.Rows.callWith_type1 (thn (ha pos pins s σ H _ I h) fun us s1 ⟨vs, H1, I1, r1, q1⟩ => ?_) (by rw [hs, hs2]) (by rw [hs2]; rfl)))
  obtain ⟨i, j, e, ⟨q1, q2, q3, q4⟩, q⟩ := q1
  subst e
  cases r1 with
  | cons r rr =>
    cases rr with
    | cons r' rr =>
      cases rr
      obtain ⟨t, rfl⟩ := r
      obtain ⟨t', rfl⟩ := r'
      exact call_range_2 (range_it I1 q1 q2 q3 q4 q)
def tFor (wi : TI) (g : TG) (tb : TS) : TS := fun D σ H => wi σ H fun J H1 => ∃ W : Nat → Nat → St → Hp → Prop, (∃ m, W 0 m σ H1) ∧ ∀ i m σ H, W i m σ H →
  (J.stop i H ∧ D.nx σ H) ∨ (J.go i H ∧ ∃ N : St → Hp → Prop, (∀ σ' H', N σ' H' → ∃ m', m' < m ∧ W (i + 1) m' σ' H') ∧ ∀ x H', J.yld i H x H' → g x σ H' fun σ2 H2 => tb { D with nx := N, ct := N, bk := D.nx } σ2 H2)
def pinsAt (fp : List Addr) (h : Heap) : List (Addr × Obj) := fp.filterMap fun b => (h.get? b).map fun o => (b, o)
theorem mem_pinsAt {fp : List Addr} {h : Heap} {b : Addr} {o : Obj} (hb : b ∈ fp) (e : h.get? b = some o) : (b, o) ∈ pinsAt fp h := List.mem_filterMap.mpr ⟨b, hb, by rw [e]; rfl⟩
theorem of_pinsAt {fp : List Addr} {h : Heap} {p : Addr × Obj} (hp : p ∈ pinsAt fp h) : p.1 ∈ fp ∧ h.get? p.1 = some p.2 := by
  obtain ⟨b, hb, e⟩ := List.mem_filterMap.mp hp
  cases q : h.get? b with
  | none => rw [q] at e; cases e
  | some o =>
    rw [q] at e
    have e' : (b, o) = p := Option.some.inj e
    subst e'
    exact ⟨hb, q⟩
theorem Inv.pinned {pins : List (Addr × Obj)} {σ : St} {H : Hp} {s : Shared} {fp : List Addr} (I : Inv X pins σ H s) (hf : ∀ b ∈ fp, FpOk X pins H b) (ho : ∀ b ∈ fp, ∃ o, s.heap.get? b = some o ∧ ∀ v, o.data ≠ .cell v) : Inv X (pins ++ pinsAt fp s.heap) σ H s :=
  I.pins_of fun p hp => (List.mem_append.mp hp).elim (fun z => I.pin p (List.mem_append_right _ z)) fun z => by
    obtain ⟨hb, e⟩ := of_pinsAt z
    obtain ⟨f0, f1, f2, _⟩ := hf p.1 hb
    obtain ⟨o, e', d⟩ := ho p.1 hb
    rw [e] at e'; cases e'
    exact ⟨e, f0, f1, f2, d⟩
theorem Inv.unpinned {pins pl : List (Addr × Obj)} {σ : St} {H : Hp} {s : Shared} (I : Inv X (pins ++ pl) σ H s) : Inv X pins σ H s := I.pins_of fun p hp => I.pin p (List.mem_append_right _ (List.mem_append_left _ hp))
theorem ps_for {iter : Expr} {body : List Stmt} {wi : TI} {g : TG} {tb : TS} {pos : Pos} (hp : PassesOwn (model X.prog X.w) X.A X.env X.xe) (hc : X.calm = true) (hi : PI X tg iter wi) (hg : PG X tg g) (hb : PSs X body tb)
    (hs : ∀ x, foldedSetIterable iter X.env x = pure x := by intro _; rfl) : PS X (.For tg iter body [] pos) (tFor wi g tb) := by
  intro pins s σ H D I h
  refine wpAny_For (thn (hi pins s σ H _ I h) fun v s1 h1 => thn h1 fun itv s2 h2 => ?_) hs
  obtain ⟨it, fp, tn, J, H2, e, I2, T, st2, f2, W, ⟨m0, w0⟩, turn⟩ := h2
  subst e
  have stat : ∀ {H' : Hp}, (∀ b ∈ fp, H' b = none) → ∀ b ∈ fp, FpOk X pins H' b := fun hn b hb => ⟨hn b hb, (f2 b hb).2⟩
  refine codeAny_forLoop_any (fun n s' => ∃ i σ' H', Inv X pins σ' H' s' ∧ tn i s'.heap ∧ (∀ b ∈ fp, H' b = none) ∧ W i n σ' H') ?_ m0 ⟨0, σ, H2, I2, st2, fun b hb => (f2 b hb).1, w0⟩
  rintro n s3 ⟨i, σ3, H3, I3, st3, fr3, w3⟩
  rcases turn i n σ3 H3 w3 with ⟨stop, qn⟩ | ⟨go, N, hN, step⟩
  · refine wpAny_passesOwn hp (thn (T.done X rfl rfl rfl hc i pins s3 σ3 H3 X.xe I3 (stat fr3) st3 stop) fun r s4 ⟨hr, I4⟩ => ?_)
    subst hr
    exact wpAny_execs_nil ⟨σ3, H3, I4, qn⟩
  · refine wpAny_passesOwn hp (thn (T.item X rfl rfl rfl hc i pins s3 σ3 H3 X.xe I3 (stat fr3) st3 go) fun r s4 ⟨u, hr, h4⟩ => ?_)
    subst hr
    refine wpAny_passesOwn hp (thn h4 fun _ s5 ⟨x, H5, I5, r5, y5, st5, fr5⟩ => ?_)
    have I5' := I5.pinned (stat fr5) (T.obj _ _ st5)
    refine wpAny_passesOwn hp (thn (hg _ s5 σ3 H5 x u _ I5' r5 (step x H5 y5)) fun _ s6 ⟨σ6, H6, I6, q6⟩ => ?_)
    refine wpAny_passesOwn hp (thn (hb _ s6 σ6 H6 _ I6 q6) fun f s7 q7 => ?_)
    have again : ∀ {σ7 : St} {H7 : Hp}, Inv X (pins ++ pinsAt fp s5.heap) σ7 H7 s7 → N σ7 H7 → ∃ m, m < n ∧ ∃ i σ' H', Inv X pins σ' H' s7 ∧ tn i s7.heap ∧ (∀ b ∈ fp, H' b = none) ∧ W i m σ' H' := fun {σ7 H7} I7 n7 => by
      obtain ⟨m', hm, w7⟩ := hN σ7 H7 n7
      refine ⟨m', hm, i + 1, σ7, H7, I7.unpinned, T.keep _ _ _ st5 fun b hb o e => (I7.pin (b, o) (List.mem_append_right _ (List.mem_append_right _ (mem_pinsAt hb e)))).1, fun b hb => ?_, w7⟩
      obtain ⟨o, e, d⟩ := T.obj _ _ st5 b hb
      exact (I7.pin (b, o) (List.mem_append_right _ (List.mem_append_right _ (mem_pinsAt hb e)))).2.1
    cases f with
    | next => obtain ⟨σ7, H7, I7, n7⟩ := q7; exact again I7 n7
    | cont => obtain ⟨σ7, H7, I7, n7⟩ := q7; exact again I7 n7
    | brk => obtain ⟨σ7, H7, I7, q7⟩ := q7; exact ⟨σ7, H7, I7.unpinned, q7⟩
    | ret v => obtain ⟨x7, σ7, H7, I7, r7, q7⟩ := q7; exact ⟨x7, σ7, H7, I7.unpinned, r7, q7⟩
end
theorem for_list {K : PySem.W.Frag} {a : Addr} {xs : List V} {g : TG} {tb : TS} {D : Ends} {σ : St} {H : Hp} (Pv : Nat → St → Hp → Prop) (h0 : Pv 0 σ H) (hl : ∀ i σ H, i ≤ xs.length → Pv i σ H → SqL K H a xs)
    (hs : ∀ i x σ H, xs[i]? = some x → Pv i σ H → g x σ H fun σ2 H2 => tb { D with nx := Pv (i + 1), ct := Pv (i + 1), bk := D.nx } σ2 H2) (hd : ∀ σ H, Pv xs.length σ H → D.nx σ H) :
    ∃ W : Nat → Nat → St → Hp → Prop, (∃ m, W 0 m σ H) ∧ ∀ i m σ H, W i m σ H →
      ((Itl K a).stop i H ∧ D.nx σ H) ∨ ((Itl K a).go i H ∧ ∃ N : St → Hp → Prop, (∀ σ' H', N σ' H' → ∃ m', m' < m ∧ W (i + 1) m' σ' H') ∧ ∀ x H', (Itl K a).yld i H x H' → g x σ H' fun σ2 H2 => tb { D with nx := N, ct := N, bk := D.nx } σ2 H2) := by
  refine ⟨fun i m σ H => m = xs.length - i ∧ i ≤ xs.length ∧ Pv i σ H, ⟨xs.length, by simp, Nat.zero_le _, h0⟩, ?_⟩
  rintro i m σ H ⟨rfl, hi, p⟩
  have q := hl i σ H hi p
  by_cases hlt : i < xs.length
  · refine .inr ⟨⟨xs, xs[i], q, by simp [hlt]⟩, Pv (i + 1), fun σ' H' p' => ⟨xs.length - (i + 1), by omega, rfl, hlt, p'⟩, fun x H' y => ?_⟩
    obtain ⟨e, y⟩ := y
    subst e
    exact hs i x σ _ (y xs q) p
  · have e : i = xs.length := by omega
    subst e
    exact .inl ⟨⟨xs, q, Nat.le_refl _⟩, hd σ H p⟩
theorem for_range {lo : Int} {n : Nat} {g : TG} {tb : TS} {D : Ends} {σ : St} {H : Hp} (Pv : Nat → St → Hp → Prop) (h0 : Pv 0 σ H)
    (hs : ∀ i σ H, i < n → Pv i σ H → g (.int (lo + i)) σ H fun σ2 H2 => tb { D with nx := Pv (i + 1), ct := Pv (i + 1), bk := D.nx } σ2 H2) (hd : ∀ σ H, Pv n σ H → D.nx σ H) :
    ∃ W : Nat → Nat → St → Hp → Prop, (∃ m, W 0 m σ H) ∧ ∀ i m σ H, W i m σ H →
      ((Itr lo n).stop i H ∧ D.nx σ H) ∨ ((Itr lo n).go i H ∧ ∃ N : St → Hp → Prop, (∀ σ' H', N σ' H' → ∃ m', m' < m ∧ W (i + 1) m' σ' H') ∧ ∀ x H', (Itr lo n).yld i H x H' → g x σ H' fun σ2 H2 => tb { D with nx := N, ct := N, bk := D.nx } σ2 H2) := by
  refine ⟨fun i m σ H => m = n - i ∧ i ≤ n ∧ Pv i σ H, ⟨n, by simp, Nat.zero_le _, h0⟩, ?_⟩
  rintro i m σ H ⟨rfl, hi, p⟩
  by_cases hlt : i < n
  · refine .inr ⟨hlt, Pv (i + 1), fun σ' H' p' => ⟨n - (i + 1), by omega, rfl, hlt, p'⟩, fun x H' y => ?_⟩
    obtain ⟨e, y⟩ := y
    subst e y
    exact hs i σ _ hlt p
  · have e : i = n := by omega
    subst e
    exact .inl ⟨Nat.le_refl _, hd σ H p⟩
end L2
namespace L2
open PySem PySem.Spec PyProof.Rows
abbrev R2 := V → V → Hp → VK → Prop
def OpR (X : Cx) (f : Value → Value → Sem Value) (r : R2) : Prop :=
  ∀ (pins : List (Addr × Obj)) (s : Shared) (σ : St) (H : Hp) (x y : V) (v u : Value) (Q : VK), Inv X pins σ H s → RelV x v → RelV y u → r x y H Q →
    wpAny (model X.prog X.w) X.A (f v u) (EP X pins σ Q) X.xe s
def UnR (X : Cx) (f : Value → Sem Value) (r : V → Hp → VK → Prop) : Prop :=
  ∀ (pins : List (Addr × Obj)) (s : Shared) (σ : St) (H : Hp) (x : V) (v : Value) (Q : VK), Inv X pins σ H s → RelV x v → r x H Q →
    wpAny (model X.prog X.w) X.A (f v) (EP X pins σ Q) X.xe s
def CallR (X : Cx) (f : Value) (r : List V → Hp → VK → Prop) : Prop :=
  ∀ (pins : List (Addr × Obj)) (s : Shared) (σ : St) (H : Hp) (xs : List V) (us : List Value) (Q : VK), Inv X pins σ H s → Vals xs us → r xs H Q →
    wpAny (model X.prog X.w) X.A (call f us) (EP X pins σ Q) X.xe s
def tOp (r : R2) (ta tb : TE) : TE := fun σ H Q => ta σ H fun x H1 => tb σ H1 fun y H2 => r x y H2 Q
def tUn (r : V → Hp → VK → Prop) (ta : TE) : TE := fun σ H Q => ta σ H fun x H1 => r x H1 Q
def rI (C : Int → Int → Prop) (g : Int → Int → V) : R2 := fun x y H Q => ∃ i j, x = .int i ∧ y = .int j ∧ C i j ∧ Q (g i j) H
def rI0 (g : Int → Int → V) : R2 := fun x y H Q => ∃ i j, x = .int i ∧ y = .int j ∧ Q (g i j) H
def rU (g : Int → V) : V → Hp → VK → Prop := fun x H Q => ∃ i, x = .int i ∧ Q (g i) H
section
variable {X : Cx} {a b c : Expr} {ta tb tc : TE} {pos : Pos}
theorem binT (ha : PE X a ta) (hb : PE X b tb) {pins : List (Addr × Obj)} {s : Shared} {σ : St} {H : Hp} {R : V → V → Hp → Prop} (I : Inv X pins σ H s)
    (h : ta σ H fun x H1 => tb σ H1 fun y H2 => R x y H2) {Q : Value → Shared → Prop} {f : Value → Value → Sem Value}
    (hf : ∀ v u s2 x y H2, Inv X pins σ H2 s2 → RelV x v → RelV y u → R x y H2 → wpAny (model X.prog X.w) X.A (f v u) Q X.xe s2) :
    wpAny (model X.prog X.w) X.A (eval a X.env) (fun v s₁ => wpAny (model X.prog X.w) X.A (eval b X.env) (fun u s₂ => wpAny (model X.prog X.w) X.A (f v u) Q X.xe s₂) X.xe s₁) X.xe s := by
  refine thn (ha pins s σ H _ I h) fun v s1 ⟨x, H1, I1, r1, q1⟩ => ?_
  refine thn (hb pins s1 σ H1 _ I1 q1) fun u s2 ⟨y, H2, I2, r2, q2⟩ => ?_
  exact hf v u s2 x y H2 I2 r1 r2 q2
theorem pe_op {op : Operator} {r : R2} (ho : OpR X (binaryOp op) r) (ha : PE X a ta) (hb : PE X b tb) : PE X (.BinOp a op b pos) (tOp r ta tb) := by
  intro pins s σ H Q I h
  exact wpAny_BinOp (binT ha hb I h fun v u s2 x y H2 I2 rx ry q => ho pins s2 σ H2 x y v u Q I2 rx ry q)
theorem pe_un {op : UnaryOp} {r : V → Hp → VK → Prop} (ho : UnR X (unaryOp op) r) (ha : PE X a ta) : PE X (.UnaryOp op a pos) (tUn r ta) := by
  intro pins s σ H Q I h
  exact UnaryOp_ (thn (ha pins s σ H _ I h) fun v s1 ⟨x, H1, I1, r1, q1⟩ => ho pins s1 σ H1 x v Q I1 r1 q1)
theorem opI {f : Value → Value → Sem Value} {C : Int → Int → Prop} {g : Int → Int → Int}
    (rule : ∀ (i j : Int) (t u : Tok) (s : Shared) (Q : Value → Shared → Prop) (E : Value → Shared → Prop), C i j → Q (.int (g i j) s.toks) { s with toks := s.toks + 1 } → wpAny (model X.prog X.w) X.A (f (.int i t) (.int j u)) Q E s) :
    OpR X f (rI C fun i j => .int (g i j)) := by
  intro pins s σ H x y v u Q I rx ry h
  obtain ⟨i, j, rfl, rfl, hc, q⟩ := h
  obtain ⟨t, rfl⟩ := rx
  obtain ⟨t', rfl⟩ := ry
  exact rule i j t t' s _ _ hc ⟨.int (g i j), H, I.tok _, ⟨_, rfl⟩, q⟩
theorem opI0 {f : Value → Value → Sem Value} {g : Int → Int → Int}
    (rule : ∀ (i j : Int) (t u : Tok) (s : Shared) (Q : Value → Shared → Prop) (E : Value → Shared → Prop), Q (.int (g i j) s.toks) { s with toks := s.toks + 1 } → wpAny (model X.prog X.w) X.A (f (.int i t) (.int j u)) Q E s) :
    OpR X f (rI0 fun i j => .int (g i j)) := by
  intro pins s σ H x y v u Q I rx ry h
  obtain ⟨i, j, rfl, rfl, q⟩ := h
  obtain ⟨t, rfl⟩ := rx
  obtain ⟨t', rfl⟩ := ry
  exact rule i j t t' s _ _ ⟨.int (g i j), H, I.tok _, ⟨_, rfl⟩, q⟩
theorem opB0 {f : Value → Value → Sem Value} {g : Int → Int → Bool}
    (rule : ∀ (i j : Int) (t u : Tok) (s : Shared) (Q : Value → Shared → Prop) (E : Value → Shared → Prop), Q (.bool (g i j)) s → wpAny (model X.prog X.w) X.A (f (.int i t) (.int j u)) Q E s) :
    OpR X f (rI0 fun i j => .bl (g i j)) := by
  intro pins s σ H x y v u Q I rx ry h
  obtain ⟨i, j, rfl, rfl, q⟩ := h
  obtain ⟨t, rfl⟩ := rx
  obtain ⟨t', rfl⟩ := ry
  exact rule i j t t' s _ _ ⟨.bl (g i j), H, I, rfl, q⟩
def CDiv (i j : Int) : Prop := 0 < j ∧ j < 1073741824
def CMul (i j : Int) : Prop := (-(2 ^ 64) < i ∧ i < 2 ^ 64) ∨ (-(2 ^ 64) < j ∧ j < 2 ^ 64)
theorem CMul.ok {i j : Int} (h : CMul i j) : IntMulOk i j := by
  rcases h with ⟨h1, h2⟩ | ⟨h1, h2⟩
  · exact .of_left (intBits_le_64 h1 h2)
  · exact .of_right (intBits_le_64 h1 h2)
theorem op_add : OpR X (binaryOp .Add) (rI0 fun i j => .int (i + j)) := opI0 fun _ _ _ _ _ _ _ q => add_int q
theorem op_sub : OpR X (binaryOp .Sub) (rI0 fun i j => .int (i - j)) := opI0 fun _ _ _ _ _ _ _ q => sub_int q
theorem op_mul : OpR X (binaryOp .Mult) (rI CMul fun i j => .int (i * j)) := opI fun _ _ _ _ _ _ _ hc q => mul_int q hc.ok
theorem op_fdiv : OpR X (binaryOp .FloorDiv) (rI CDiv fun i j => .int (i / j)) := opI fun i j _ _ _ _ _ hc q => by
  have h1 : (0 : Int) < j := hc.1
  have h2 : j < 1073741824 := hc.2
  exact floordiv_int (by omega) (by rw [Int.fdiv_eq_ediv_of_nonneg i (by omega)]; exact q) (.inl (PyProof.noPylong_small (by omega)))
theorem op_mod : OpR X (binaryOp .Mod) (rI (fun _ j => 0 < j) fun i j => .int (i % j)) := opI fun i j _ _ _ _ _ hc q => by
  have h1 : (0 : Int) < j := hc
  exact mod_int' (by omega) (by rw [Int.fmod_eq_emod_of_nonneg i (by omega)]; exact q)
theorem unI {f : Value → Sem Value} {g : Int → Int}
    (rule : ∀ (i : Int) (t : Tok) (s : Shared) (Q : Value → Shared → Prop) (E : Value → Shared → Prop), Q (.int (g i) s.toks) { s with toks := s.toks + 1 } → wpAny (model X.prog X.w) X.A (f (.int i t)) Q E s) :
    UnR X f (rU fun i => .int (g i)) := by
  intro pins s σ H x v Q I rx h
  obtain ⟨i, rfl, q⟩ := h
  obtain ⟨t, rfl⟩ := rx
  exact rule i t s _ _ ⟨.int (g i), H, I.tok _, ⟨_, rfl⟩, q⟩
theorem un_neg : UnR X (unaryOp .USub) (rU fun i => .int (-i)) := unI fun _ _ _ _ _ q => neg_int q
end
def scal : V → V → Bool
  | .non, .non => true | .non, .int _ => true | .int _, .non => true | .non, .bl _ => true | .bl _, .non => true | .non, .str _ => true | .str _, .non => true
  | .int _, .int _ => true | .bl _, .bl _ => true | .str _, .str _ => true | .byt _, .byt _ => true
  | .int _, .str _ => true | .str _, .int _ => true | .bl _, .str _ => true | .str _, .bl _ => true
  | _, _ => false
def rEq : R2 := fun x y H Q => scal x y = true ∧ Q (.bl (decide (x = y))) H
def rNe : R2 := fun x y H Q => scal x y = true ∧ Q (.bl (!decide (x = y))) H
theorem dec_int {i j : Int} : decide (V.int i = V.int j) = (i == j) := by
  rw [Bool.eq_iff_iff]
  simp
theorem dec_bl {i j : Bool} : decide (V.bl i = V.bl j) = (i == j) := by
  rw [Bool.eq_iff_iff]
  simp
theorem dec_str {i j : Str} : decide (V.str i = V.str j) = (i == j) := by
  rw [Bool.eq_iff_iff]
  simp
theorem dec_byt {i j : Array UInt8} : decide (V.byt i = V.byt j) = (i.toList == j.toList) := by
  rw [Bool.eq_iff_iff]
  cases i
  cases j
  simp
section
variable {X : Cx} {a b c : Expr} {ta tb tc : TE} {pos : Pos}
theorem fin_bl {pins : List (Addr × Obj)} {σ : St} {H : Hp} {s : Shared} {Q : VK} {k k' : Bool} (I : Inv X pins σ H s) (q : Q (.bl k) H) (e : k = k') : EP X pins σ Q (.bool k') s := by
  subst e
  exact ⟨.bl k, H, I, rfl, q⟩
theorem op_eq : OpR X (compareOp .Eq) rEq := by
  intro pins s σ H x y v u Q I rx ry h
  obtain ⟨hs, q⟩ := h
  cases x with
  | non =>
    cases rx
    cases y with
    | non => cases ry; exact PySem.EqNone.eq_none_none (fin_bl I q (by simp))
    | bl j => cases ry; exact PySem.EqNone.eq_none_bool (fin_bl I q (by simp))
    | int j => obtain ⟨t', rfl⟩ := ry; exact PySem.EqNone.eq_none_int (fin_bl I q (by simp))
    | str j => obtain ⟨t', rfl⟩ := ry; exact PySem.EqNone.eq_none_str (fin_bl I q (by simp))
    | _ => exact absurd (show false = true from hs) Bool.false_ne_true
  | bl i =>
    cases rx
    cases y with
    | non => cases ry; exact PySem.EqNone.eq_bool_none (fin_bl I q (by simp))
    | bl j => cases ry; exact eq_bool (fin_bl I q dec_bl)
    | str j => obtain ⟨t', rfl⟩ := ry; exact PySem.EqMixed.eq_bool_str (fin_bl I q (by simp))
    | _ => exact absurd (show false = true from hs) Bool.false_ne_true
  | int i =>
    obtain ⟨t, rfl⟩ := rx
    cases y with
    | non => cases ry; exact PySem.EqNone.eq_int_none (fin_bl I q (by simp))
    | int j => obtain ⟨t', rfl⟩ := ry; exact eq_int (fin_bl I q dec_int)
    | str j => obtain ⟨t', rfl⟩ := ry; exact PySem.EqMixed.eq_int_str (fin_bl I q (by simp))
    | _ => exact absurd (show false = true from hs) Bool.false_ne_true
  | str i =>
    obtain ⟨t, rfl⟩ := rx
    cases y with
    | non => cases ry; exact PySem.EqNone.eq_str_none (fin_bl I q (by simp))
    | bl j => cases ry; exact PySem.EqMixed.eq_str_bool (fin_bl I q (by simp))
    | int j => obtain ⟨t', rfl⟩ := ry; exact PySem.EqMixed.eq_str_int (fin_bl I q (by simp))
    | str j => obtain ⟨t', rfl⟩ := ry; exact eq_str (fin_bl I q dec_str)
    | _ => exact absurd (show false = true from hs) Bool.false_ne_true
  | byt i =>
    obtain ⟨t, rfl⟩ := rx
    cases y with
    | byt j => obtain ⟨t', rfl⟩ := ry; exact PySem.W.eq_bytes (fin_bl I q dec_byt)
    | _ => exact absurd (show false = true from hs) Bool.false_ne_true
  | _ => cases y <;> exact absurd (show false = true from hs) Bool.false_ne_true
theorem op_ne : OpR X (compareOp .NotEq) rNe := by
  intro pins s σ H x y v u Q I rx ry h
  obtain ⟨hs, q⟩ := h
  cases x with
  | non =>
    cases rx
    cases y with
    | non => cases ry; exact PySem.EqNone.ne_none_none (fin_bl I q (by simp))
    | bl j => cases ry; exact PySem.EqNone.ne_none_bool (fin_bl I q (by simp))
    | int j => obtain ⟨t', rfl⟩ := ry; exact PySem.EqNone.ne_none_int (fin_bl I q (by simp))
    | str j => obtain ⟨t', rfl⟩ := ry; exact PySem.EqNone.ne_none_str (fin_bl I q (by simp))
    | _ => exact absurd (show false = true from hs) Bool.false_ne_true
  | bl i =>
    cases rx
    cases y with
    | non => cases ry; exact PySem.EqNone.ne_bool_none (fin_bl I q (by simp))
    | bl j => cases ry; exact ne_bool (fin_bl I q (congrArg not dec_bl))
    | str j => obtain ⟨t', rfl⟩ := ry; exact PySem.EqMixed.ne_bool_str (fin_bl I q (by simp))
    | _ => exact absurd (show false = true from hs) Bool.false_ne_true
  | int i =>
    obtain ⟨t, rfl⟩ := rx
    cases y with
    | non => cases ry; exact PySem.EqNone.ne_int_none (fin_bl I q (by simp))
    | int j => obtain ⟨t', rfl⟩ := ry; exact ne_int (fin_bl I q (congrArg not dec_int))
    | str j => obtain ⟨t', rfl⟩ := ry; exact PySem.EqMixed.ne_int_str (fin_bl I q (by simp))
    | _ => exact absurd (show false = true from hs) Bool.false_ne_true
  | str i =>
    obtain ⟨t, rfl⟩ := rx
    cases y with
    | non => cases ry; exact PySem.EqNone.ne_str_none (fin_bl I q (by simp))
    | bl j => cases ry; exact PySem.EqMixed.ne_str_bool (fin_bl I q (by simp))
    | int j => obtain ⟨t', rfl⟩ := ry; exact PySem.EqMixed.ne_str_int (fin_bl I q (by simp))
    | str j => obtain ⟨t', rfl⟩ := ry; exact ne_str (fin_bl I q (congrArg not dec_str))
    | _ => exact absurd (show false = true from hs) Bool.false_ne_true
  | byt i =>
    obtain ⟨t, rfl⟩ := rx
    cases y with
    | byt j => obtain ⟨t', rfl⟩ := ry; exact PySem.W.ne_bytes (fin_bl I q (congrArg not dec_byt))
    | _ => exact absurd (show false = true from hs) Bool.false_ne_true
  | _ => cases y <;> exact absurd (show false = true from hs) Bool.false_ne_true
theorem op_lt : OpR X (compareOp .Lt) (rI0 fun i j => .bl (decide (i < j))) := opB0 fun _ _ _ _ _ _ _ q => lt_int q
theorem op_le : OpR X (compareOp .LtE) (rI0 fun i j => .bl (decide (i ≤ j))) := opB0 fun _ _ _ _ _ _ _ q => le_int q
theorem op_gt : OpR X (compareOp .Gt) (rI0 fun i j => .bl (decide (j < i))) := opB0 fun _ _ _ _ _ _ _ q => gt_int q
theorem op_in_str : OpR X (compareOp .In) (fun x y H Q => ∃ i j, x = .str i ∧ y = .str j ∧ Q (.bl (!(Builtin.Str.occurrences j i 0 j.length 1).isEmpty)) H) := by
  intro pins s σ H x y v u Q I rx ry h
  obtain ⟨i, j, rfl, rfl, q⟩ := h
  obtain ⟨t, rfl⟩ := rx
  obtain ⟨t', rfl⟩ := ry
  exact in_str (fin_bl I q rfl)
theorem op_notin_str : OpR X (compareOp .NotIn) (fun x y H Q => ∃ i j, x = .str i ∧ y = .str j ∧ Q (.bl (!(!(Builtin.Str.occurrences j i 0 j.length 1).isEmpty))) H) := by
  intro pins s σ H x y v u Q I rx ry h
  obtain ⟨i, j, rfl, rfl, q⟩ := h
  obtain ⟨t, rfl⟩ := rx
  obtain ⟨t', rfl⟩ := ry
  exact notIn_str (fin_bl I q rfl)
theorem OpR.or {f : Value → Value → Sem Value} {r r' : R2} (h : OpR X f r) (h' : OpR X f r') : OpR X f (fun x y H Q => r x y H Q ∨ r' x y H Q) := by
  intro pins s σ H x y v u Q I rx ry q
  rcases q with q | q
  · exact h pins s σ H x y v u Q I rx ry q
  · exact h' pins s σ H x y v u Q I rx ry q
theorem nomark (b : Expr) {op : CmpOp} (h : op ≠ .In := by decide) (h2 : op ≠ .NotIn := by decide) : behindInMarks op b = false := by
  have e1 : (op == CmpOp.In) = false := by cases op <;> first | rfl | exact absurd rfl h
  have e2 : (op == CmpOp.NotIn) = false := by cases op <;> first | rfl | exact absurd rfl h2
  cases b <;> simp [behindInMarks, e1, e2]
theorem pe_cmpR {op : CmpOp} {r : R2} (ho : OpR X (compareOp op) r) (ha : PE X a ta) (hb : PE X b tb) (hm : behindInMarks op b = false) : PE X (.Compare a [op] [b] pos) (tOp r ta tb) := by
  intro pins s σ H Q I h
  exact wpAny_Compare1 (binT ha hb I h fun v u s2 x y H2 I2 rx ry q => ho pins s2 σ H2 x y v u Q I2 rx ry q) hm
def tTest (t : TE) : TT := fun σ H Q => t σ H fun x H' => ∃ k, x = .bl k ∧ Q k H'
theorem pt_cmpR {op : CmpOp} {r : R2} (ho : OpR X (compareOp op) r) (ha : PE X a ta) (hb : PE X b tb) (hm : behindInMarks op b = false) : PT X (.Compare a [op] [b] pos) (tTest (tOp r ta tb)) := by
  intro pins s σ H Q I h
  refine wpAny_isTrue_Compare1 (thn (ha pins s σ H _ I h) fun v s1 ⟨x, H1, I1, r1, q1⟩ => thn (hb pins s1 σ H1 _ I1 q1) fun u s2 ⟨y, H2, I2, r2, q2⟩ =>
    thn (ho pins s2 σ H2 x y v u _ I2 r1 r2 q2) fun c s3 ⟨z, H3, I3, r3, k, e, q3⟩ => ?_) hm
  subst e
  cases r3
  exact wpAny_truthy_bool ⟨H3, I3, q3⟩
def tChain (r r' : R2) (ta tb tc : TE) : TE := fun σ H Q => ta σ H fun x H1 => tb σ H1 fun y H2 => r x y H2 fun z H3 => ∃ k, z = .bl k ∧
  (if k = true then tc σ H3 fun w' H4 => r' y w' H4 Q else Q (.bl false) H3)
theorem pe_chain {op op' : CmpOp} {r r' : R2} (ho : OpR X (compareOp op) r) (ho' : OpR X (compareOp op') r') (ha : PE X a ta) (hb : PE X b tb) (hc : PE X c tc)
    (hm : lastMarks [op, op'] [b, c] = false := by with_unfolding_all rfl) : PE X (.Compare a [op, op'] [b, c] pos) (tChain r r' ta tb tc) := by
  intro pins s σ H Q I h
  refine Compare_chain (thn (ha pins s σ H _ I h) fun v s1 ⟨x, H1, I1, r1, q1⟩ => chain_link (thn (hb pins s1 σ H1 _ I1 q1) fun u s2 ⟨y, H2, I2, r2, q2⟩ =>
    thn (ho pins s2 σ H2 x y v u _ I2 r1 r2 q2) fun d s3 ⟨z, H3, I3, r3, k, e, q3⟩ => ?_)) hm
  subst e
  cases r3
  refine wpAny_truthy_bool ?_
  cases k with
  | false => exact ite_ff ⟨.bl false, H3, I3, rfl, q3⟩
  | true => exact ite_tt (chain_last (thn (hc pins s3 σ H3 _ I3 q3) fun w' s4 ⟨z', H4, I4, r4, q4⟩ => ho' pins s4 σ H4 y z' u w' Q I4 r2 r4 q4))
theorem line63 : (sizeLine : Nat) < 2 ^ 63 := by rw [sizeLine_eq]; decide
theorem op_add_str : OpR X (binaryOp .Add) (fun x y H Q => ∃ i j, x = .str i ∧ y = .str j ∧ i.length + j.length ≤ sizeLine ∧ Q (.str (i ++ j)) H) := by
  intro pins s σ H x y v u Q I rx ry h
  obtain ⟨i, j, rfl, rfl, hz, q⟩ := h
  obtain ⟨t, rfl⟩ := rx
  obtain ⟨t', rfl⟩ := ry
  exact add_str (fun t' tk => ⟨.str (i ++ j), H, I.tok _, ⟨_, rfl⟩, q⟩) hz
theorem vals1 {x : V} {us : List Value} (r : Vals [x] us) : ∃ u, us = [u] ∧ RelV x u := by
  cases r with
  | cons r1 r2 => cases r2; exact ⟨_, rfl, r1⟩
theorem vals2 {x y : V} {us : List Value} (r : Vals [x, y] us) : ∃ u w', us = [u, w'] ∧ RelV x u ∧ RelV y w' := by
  cases r with
  | cons r1 r2 =>
    cases r2 with
    | cons r3 r4 => cases r4; exact ⟨_, _, rfl, r1, r3⟩
theorem call_max2 (hc : X.calm = true) : CallR X (.builtin "max") (fun xs H Q => ∃ i j, xs = [.int i, .int j] ∧ Q (.int (if j > i then j else i)) H) := by
  intro pins s σ H xs us Q I r h
  obtain ⟨i, j, rfl, q⟩ := h
  obtain ⟨u, w', rfl, ⟨t, rfl⟩, ⟨t', rfl⟩⟩ := vals2 r
  refine max_two_ints (I.ok.hd hc) fun h' tk k => ⟨_, H, I.kept k, ?_, q⟩
  by_cases hj : j > i
  · rw [if_pos hj, if_pos hj]; exact ⟨_, rfl⟩
  · rw [if_neg hj, if_neg hj]; exact ⟨_, rfl⟩
theorem call_min2 (hc : X.calm = true) : CallR X (.builtin "min") (fun xs H Q => ∃ i j, xs = [.int i, .int j] ∧ Q (.int (if j < i then j else i)) H) := by
  intro pins s σ H xs us Q I r h
  obtain ⟨i, j, rfl, q⟩ := h
  obtain ⟨u, w', rfl, ⟨t, rfl⟩, ⟨t', rfl⟩⟩ := vals2 r
  refine min_two_ints (I.ok.hd hc) fun h' tk k => ⟨_, H, I.kept k, ?_, q⟩
  by_cases hj : j < i
  · rw [if_pos hj, if_pos hj]; exact ⟨_, rfl⟩
  · rw [if_neg hj, if_neg hj]; exact ⟨_, rfl⟩
theorem call_str_int : CallR X (.type "str") (fun xs H Q => ∃ i, xs = [.int i] ∧ i.natAbs.log2 < 1920 ∧ Q (.str (toString i)) H) := by
  intro pins s σ H xs us Q I r h
  obtain ⟨i, rfl, hz, q⟩ := h
  obtain ⟨u, rfl, t, rfl⟩ := vals1 r
  exact PySem.P.str_of_int hz ⟨.str _, H, I.tok _, ⟨_, rfl⟩, q⟩
end
end L2
namespace L2
open PySem PySem.Spec PyProof.Rows
structure ObjM (h : Heap) (x dx C : Addr) (mA : Str → Option Value) : Prop where
  obj : h.get? x = some (PySem.W.instObj C dx)
  ns : h.Ns1 dx mA
  ne : dx ≠ x
theorem lookIn_ns {h : Heap} {dx : Addr} {mA : Str → Option Value} (n : h.Ns1 dx mA) : ∃ od, h.get? dx = some od ∧ ∀ name, PySem.W.lookIn name od = some (mA name) := by
  obtain ⟨o, es, ep, ho, hd, hk, _, hm⟩ := n
  refine ⟨o, ho, fun name => ?_⟩
  have e := hm name
  unfold nsFind findBy at e
  rw [← Array.find?_toList] at e
  unfold PySem.W.lookIn
  rw [hd]
  dsimp only
  split
  · rename_i y q
    rw [q] at e
    exact congrArg some e
  · rename_i q
    rw [q] at e
    have a : es.toList.any (·.refKey) = false := by
      rw [List.any_eq_false]
      intro y hy
      obtain ⟨z, t, hkey⟩ := hk y (Array.mem_toList_iff.mp hy)
      simp [DictEntry.refKey, hkey]
    have a' : ¬ es.toList.any (·.refKey) = true := by rw [a]; exact Bool.false_ne_true
    rw [if_neg a']
    exact congrArg some e
theorem ObjM.look {h : Heap} {x dx C : Addr} {mA : Str → Option Value} (I : ObjM h x dx C mA) : ∃ od, PySem.W.InstAt h x (PySem.W.instObj C dx) C (some od) ∧ ∀ name, PySem.W.lookIn name od = some (mA name) :=
  let ⟨od, ho, hl⟩ := lookIn_ns I.ns
  ⟨od, ⟨I.obj, rfl, rfl, ho⟩, hl⟩
section
variable {prog : Program} {w : World} {A : Around} {E : Value → Shared → Prop} {s : Shared} {K : PySem.W.Frag} {x dx C f : Addr} {mA : Str → Option Value} {name : Str} {v : Value}
theorem get_map {expr : Bool} {Q : Value → Shared → Prop} (X : K.In s.heap) (I : ObjM s.heap x dx C mA) (hg : PySem.W.plainGet K C name = true) (hh : PySem.W.hasDictIn K C = true)
    (ha : PySem.W.findIn K (.ref C) name = some none) (hv : mA name = some v) (hv' : PySem.W.handedIn v = true) (h : Q v { s with toks := s.toks + 1 }) :
    wpAny (model prog w) A (getAttr (.ref x) name expr) Q E s := by
  obtain ⟨od, J, hl⟩ := I.look
  exact PySem.W.get_value X J (PySem.W.plainGet_of hg).1 (PySem.W.findObj_own hh ha rfl (by rw [hl, hv])) hv' h
theorem get_meth {pl : Sem Bool} {Q : Value × List Value → Shared → Prop} (X : K.In s.heap) (I : ObjM s.heap x dx C mA) (hg : PySem.W.plainGet K C name = true)
    (hf : PySem.W.findIn K (.ref C) name = some (some (.ref f))) (ht : PySem.W.isFn K (.ref f) = true) (hv : mA name = none) (h : Q (.ref f, [.ref x]) s) :
    wpAny (model prog w) A (getMethod (.ref x) name pl) Q E s := by
  obtain ⟨od, J, hl⟩ := I.look
  exact PySem.W.method_fn X J (PySem.W.plainGet_of hg).1 (PySem.W.plainGet_of hg).2 hf (beq_iff_eq.mp ht) (by show (PySem.W.lookIn name od).map (·.isSome) = some false; rw [hl, hv]; rfl) h
theorem set_map {ns : List Str} {Q : Unit → Shared → Prop} (X : K.In s.heap) (I : ObjM s.heap x dx C mA)
    (hs : PySem.W.findIn K (.ref C) "__setattr__" = some (some (.builtin "object.__setattr__"))) (hp : PySem.W.plainOver K C = true) (ht : PySem.W.takerIn K C name = some none) (hh : PySem.W.hasDictIn K C = true)
    (hw : PySem.Within mA ns) (hsz : ns.length ≤ sizeLine)
    (h : ∀ h', ObjM h' x dx C (fun y => if y = name then some v else mA y) → Heap.SameBut dx s.heap h' → Q () { s with heap := h', toks := s.toks + 2 }) :
    wpAny (model prog w) A (setAttr (.ref x) name v) Q E s := by
  obtain ⟨od, J, hl⟩ := I.look
  refine PySem.W.set_plain X J hs (PySem.W.osa_open (s := { s with toks := s.toks + 1 }) (r := none) X J hp ht fun b => ?_)
  obtain ⟨cd, hc, hd'⟩ := PySem.W.any_some hh
  have hx : s.heap.get? x = some ⟨.ref C, some dx, .plain, #[]⟩ := I.obj
  refine wpAny_bind (wpAny_pure (wpAny_bind (wpAny_bind (wpAny_loadPart hx (wpAny_bind (PySem.W.Looks.here (s := { s with toks := s.toks + 1 }) (PySem.W.looks_clsIn X hc) ?_))))))
  rw [hd']
  refine wpAny_pure (a := some dx) (wpAny_bind (wpAny_pure (wpAny_bind ?_)))
  refine wpAny_nsSet1 (s := { s with toks := s.toks + 1 }) I.ns fun h' hn2 hs2 => ?_
  obtain ⟨oD, esD, epD, hoD, hdD, hcD⟩ := hn2.count (PySem.Within.cons name v hw)
  refine wpAny_bind (wpAny_lookBehind hoD (by rw [hdD]; exact pastItsLine_dict (Nat.le_trans hcD (by rw [List.length_cons]; omega))) ?_)
  exact wpAny_pure (h _ ⟨(hs2.2 _ (Ne.symm I.ne)).trans I.obj, hn2, I.ne⟩ hs2)
theorem make_map {R : Result → Shared → Prop} {vs : List Value} {kw : List (Str × Value)} (X : K.In s.heap) (hm : PySem.W.makesIn K C = true)
    (hi : PySem.W.findIn K (.ref C) "__init__" = some (some (.ref f))) (hf : PySem.W.typeIn K (.ref f) = some (.type "function"))
    (h : codeAny (model prog w) (A.under (.builtin "type.__call__" ⟨.ref C :: vs, kw⟩)) (.call (.ref f) ⟨.ref (s.heap.objs.size + 1) :: vs, kw⟩) (PySem.W.InitBack (s.heap.objs.size + 1) R)
      { s with heap := (s.heap.push PySem.W.emptyDict).push (PySem.W.instObj C s.heap.objs.size) }) :
    codeAny (model prog w) A (.call (.ref C) ⟨vs, kw⟩) R s := by
  obtain ⟨hh, g, d, t, os⟩ := s
  exact PySem.W.make_core (PySem.W.makes_of X hm) (PySem.W.looks_findIn X hi) (fun self => PySem.W.bind_fn X self hf) (.inl rfl) h
end
def putF (f : Str) (v : V) : List (Str × V) → List (Str × V)
  | [] => [(f, v)]
  | (g, x) :: r => if g = f then (g, v) :: r else (g, x) :: putF f v r
theorem lookup_putF (f g : Str) (v : V) : ∀ fs : List (Str × V), (putF f v fs).lookup g = if g = f then some v else fs.lookup g
  | [] => by
    show List.lookup g [(f, v)] = _
    by_cases h : g = f
    · have hb : (g == f) = true := beq_iff_eq.mpr h
      simp only [List.lookup, hb, if_pos h]
    · have hb : (g == f) = false := beq_eq_false_iff_ne.mpr h
      simp only [List.lookup, hb, if_neg h]
  | (k, x) :: r => by
    have ih := lookup_putF f g v r
    rw [show putF f v ((k, x) :: r) = (if k = f then (k, v) :: r else (k, x) :: putF f v r) from rfl]
    by_cases hk : k = f
    · rw [if_pos hk]
      by_cases h : g = k
      · have hb : (g == k) = true := beq_iff_eq.mpr h
        simp only [List.lookup, hb, if_pos (h.trans hk)]
      · have hb : (g == k) = false := beq_eq_false_iff_ne.mpr h
        simp only [List.lookup, hb, if_neg (fun e : g = f => h (e.trans hk.symm))]
    · rw [if_neg hk]
      by_cases h : g = k
      · have hb : (g == k) = true := beq_iff_eq.mpr h
        simp only [List.lookup, hb, if_neg (fun e : g = f => hk (h.symm.trans e))]
      · have hb : (g == k) = false := beq_eq_false_iff_ne.mpr h
        simp only [List.lookup, hb]
        exact ih
theorem keys_putF (f : Str) (v : V) : ∀ fs : List (Str × V), f ∈ (putF f v fs).map (·.1) ∧ ∀ g, g ∈ fs.map (·.1) → g ∈ (putF f v fs).map (·.1)
  | [] => ⟨by simp [putF], fun g h => by simp at h⟩
  | (k, x) :: r => by
    obtain ⟨i1, i2⟩ := keys_putF f v r
    rw [show putF f v ((k, x) :: r) = (if k = f then (k, v) :: r else (k, x) :: putF f v r) from rfl]
    by_cases hk : k = f
    · rw [if_pos hk]
      subst hk
      exact ⟨by simp, fun g h => by simpa using h⟩
    · rw [if_neg hk]
      refine ⟨?_, fun g h => ?_⟩
      · rw [List.map_cons]
        exact List.mem_cons_of_mem _ i1
      · rw [List.map_cons] at h ⊢
        rcases List.mem_cons.mp h with e | e
        · exact List.mem_cons.mpr (.inl e)
        · exact List.mem_cons_of_mem _ (i2 g e)
theorem length_putF (f : Str) (v : V) : ∀ fs : List (Str × V), (putF f v fs).length ≤ fs.length + 1
  | [] => by simp [putF]
  | (k, x) :: r => by
    have ih := length_putF f v r
    rw [show putF f v ((k, x) :: r) = (if k = f then (k, v) :: r else (k, x) :: putF f v r) from rfl]
    by_cases hk : k = f
    · rw [if_pos hk, List.length_cons, List.length_cons]; omega
    · rw [if_neg hk, List.length_cons, List.length_cons]; omega
theorem RelO.some_of {v : V} {o : Option Value} (r : RelO (some v) o) : ∃ u, o = some u ∧ RelV v u := by
  cases o with
  | none => exact (show False from r).elim
  | some u => exact ⟨u, rfl, r⟩
theorem RelO.none_of {o : Option Value} (r : RelO none o) : o = none := by
  cases o with
  | none => rfl
  | some u => exact (show False from r).elim
theorem handed_of {v : V} {u : Value} (r : RelV v u) : PySem.W.handedIn u = true := by
  cases v with
  | non => cases (show u = Value.none from r); rfl
  | bl b => cases (show u = Value.bool b from r); rfl
  | int i => obtain ⟨t, e⟩ := (show ∃ t, u = Value.int i t from r); cases e; rfl
  | str x => obtain ⟨t, e⟩ := (show ∃ t, u = Value.str x t from r); cases e; rfl
  | byt b => obtain ⟨t, e⟩ := (show ∃ t, u = Value.bytes b t from r); cases e; rfl
  | flt b => obtain ⟨t, e⟩ := (show ∃ t, u = Value.float b t from r); cases e; rfl
  | ref a => cases (show u = Value.ref a from r); rfl
  | ty n => cases (show u = Value.type n from r); rfl
section
variable {P : Program} {w : World} {H H' : Hp} {h h' : Heap} {a C dx : Addr} {fs fs' : List (Str × V)}
theorem ins_get (hok : HOk P w H h) (e : H a = some (.ins C dx fs)) : ∃ mA, ObjM h a dx C mA ∧ (∀ f, RelO (fs.lookup f) (mA f)) ∧ PySem.Within mA (fs.map (·.1)) ∧ fs.length ≤ 1000 ∧ H dx = some (.own a) := by
  obtain ⟨d, z, ne, ob, mA, n, r, q⟩ := (show ObjOk P w H h a (.ins C dx fs) from hok a _ e)
  exact ⟨mA, ⟨ob, n, ne⟩, r, q, z, d⟩
end
structure Cls (K : PySem.W.Frag) (C : Addr) : Prop where
  pg : PySem.W.plainGet K C Str.empty = true
  hd : PySem.W.hasDictIn K C = true
  po : PySem.W.plainOver K C = true
  sa : PySem.W.findIn K (.ref C) "__setattr__" = some (some (.builtin "object.__setattr__"))
theorem Cls.get {K : PySem.W.Frag} {C : Addr} (c : Cls K C) (f : Str) : PySem.W.plainGet K C f = true := c.pg
def NoAttr (K : PySem.W.Frag) (C : Addr) (f : Str) : Prop := PySem.W.findIn K (.ref C) f = some none
theorem NoAttr.taker {K : PySem.W.Frag} {C : Addr} {f : Str} (n : NoAttr K C f) : PySem.W.takerIn K C f = some none := by
  unfold PySem.W.takerIn
  rw [show PySem.W.findIn K (.ref C) f = some none from n]
  rfl
structure Meth (K : PySem.W.Frag) (C : Addr) (m : Str) (f : Addr) : Prop where
  at_ : PySem.W.findIn K (.ref C) m = some (some (.ref f))
  fn : PySem.W.isFn K (.ref f) = true
  kp : PySem.W.keepIn K (.ref f) = true
section
variable {X : Cx} {pins : List (Addr × Obj)} {σ : St} {H : Hp} {s : Shared} {a C dx : Addr} {fs : List (Str × V)} {f : Str} {v : V} {A : Around} {E : Value → Shared → Prop}
theorem getattr_ok {b : Bool} {Q : Value → Shared → Prop} (I : Inv X pins σ H s) (e : H a = some (.ins C dx fs)) (c : Cls X.K C) (n : NoAttr X.K C f) (l : fs.lookup f = some v)
    (h : ∀ u s', Inv X pins σ H s' → RelV v u → Q u s') : wpAny (model X.prog X.w) A (getAttr (.ref a) f b) Q E s := by
  obtain ⟨mA, O, r, _, _, _⟩ := ins_get I.hok e
  obtain ⟨u, hu, ru⟩ := RelO.some_of (v := v) (o := mA f) (by rw [← l]; exact r f)
  exact get_map I.kIn O (c.get f) c.hd n hu (handed_of ru) (h u _ (I.tok _) ru)
theorem getmeth_ok {m : Str} {g : Addr} {pl : Sem Bool} {Q : Value × List Value → Shared → Prop} (I : Inv X pins σ H s) (e : H a = some (.ins C dx fs)) (c : Cls X.K C) (k : Meth X.K C m g) (l : fs.lookup m = none)
    (h : Q (.ref g, [.ref a]) s) : wpAny (model X.prog X.w) A (getMethod (.ref a) m pl) Q E s := by
  obtain ⟨mA, O, r, _, _, _⟩ := ins_get I.hok e
  have hn : mA m = none := RelO.none_of (by rw [← l]; exact r m)
  exact get_meth I.kIn O (c.get m) k.at_ k.fn hn h
theorem setattr_ok {y : V} {u : Value} {Q : Unit → Shared → Prop} (I : Inv X pins σ H s) (e : H a = some (.ins C dx fs)) (c : Cls X.K C) (n : NoAttr X.K C f) (hl : fs.length < 1000) (ry : RelV y u)
    (h : ∀ s', Inv X pins σ (upd H a (.ins C dx (putF f y fs))) s' → Q () s') : wpAny (model X.prog X.w) A (setAttr (.ref a) f u) Q E s := by
  obtain ⟨mA, O, r, wi, _, ho⟩ := ins_get I.hok e
  have hz : (fs.map (·.1)).length ≤ sizeLine := by rw [List.length_map, sizeLine_eq]; omega
  refine set_map I.kIn O c.sa c.po n.taker c.hd wi hz fun h' O' sb => h _ ?_
  have hd : ∃ o, h'.get? dx = some o := let ⟨o, _, _, e', _⟩ := O'.ns; ⟨o, e'⟩
  refine I.write (x := a) (e := dx) (by rw [e]; exact True.intro) (.inr ho) (fun b q hb z => (sb.2 b hb).trans z) hd ?_
  refine ⟨by rw [upd_ne O.ne]; exact ho, ?_, O.ne, O'.obj, _, O'.ns, fun g => ?_, fun g hg => ?_⟩
  · have := length_putF f y fs; omega
  · show RelO ((putF f y fs).lookup g) (if g = f then some u else mA g)
    rw [lookup_putF]
    by_cases q : g = f
    · rw [if_pos q, if_pos q]; exact ry
    · rw [if_neg q, if_neg q]; exact r g
  · by_cases q : g = f
    · rw [q]; exact (keys_putF f y fs).1
    · refine (keys_putF f y fs).2 g (wi g fun z => hg ?_)
      show (if g = f then some u else mA g) = none
      rw [if_neg q]; exact z
theorem Inv.made (I : Inv X pins σ H s) : Inv X pins σ (upd (upd H s.heap.objs.size (.own (s.heap.objs.size + 1))) (s.heap.objs.size + 1) (.ins C s.heap.objs.size []))
    { s with heap := (s.heap.push PySem.W.emptyDict).push (PySem.W.instObj C s.heap.objs.size) } := by
  have e1 : (s.heap.push PySem.W.emptyDict).get? s.heap.objs.size = some PySem.W.emptyDict := Heap.get?_push_size s.heap rfl
  have e2 : ((s.heap.push PySem.W.emptyDict).push (PySem.W.instObj C s.heap.objs.size)).get? (s.heap.objs.size + 1) = some (PySem.W.instObj C s.heap.objs.size) := by
    have := Heap.get?_push_size (s.heap.push PySem.W.emptyDict) (o := PySem.W.instObj C s.heap.objs.size) rfl
    rwa [Heap.size_push] at this
  have e3 : (s.heap.push PySem.W.emptyDict).Ns s.heap.objs.size (fun _ => none) := ⟨PySem.W.emptyDict, #[], _, e1, rfl, (fun e he => absurd he (by simp)), fun _ => rfl⟩
  have I1 := I.laid (a := s.heap.objs.size) (o := .own (s.heap.objs.size + 1)) (h' := s.heap.push PySem.W.emptyDict) (t' := s.toks) (fun b u q => Heap.get?_push_of_some _ q) (Nat.le_refl _) ⟨_, e1⟩
  refine I1.laid (a := s.heap.objs.size + 1) (o := .ins C s.heap.objs.size []) (t' := s.toks) (fun b u q => Heap.get?_push_of_some _ q) (Nat.le_of_eq (Heap.size_push _ _)) ?_
  have ne : s.heap.objs.size ≠ s.heap.objs.size + 1 := Nat.ne_of_lt (Nat.lt_succ_self _)
  refine ⟨by rw [upd_ne ne, upd_same], Nat.zero_le _, ne, e2, fun _ => none, (Heap.Ns1.of_empty e3).at fun o q => Heap.get?_push_of_some _ q, fun _ => True.intro, fun y hy => absurd rfl hy⟩
theorem attr_of {prog : Program} {w : World} {env : Env} {e : Expr} {f : Str} {pos : Pos} {s : Shared} {Q : Value → Shared → Prop} (hb : attributeBase e f env (eval e env) = eval e env)
    (h : wpAny (model prog w) A (eval e env) (fun o s₁ => wpAny (model prog w) A (getAttr o f true) Q E s₁) E s) : wpAny (model prog w) A (eval (.Attribute e f pos) env) Q E s :=
  Attribute_any_ h (by rw [arm_eval_Attribute, hb])
end
def tFld (K : PySem.W.Frag) (ta : TE) (f : Str) : TE := fun σ H Q => ta σ H fun x H1 => ∃ a C dx fs v, x = .ref a ∧ H1 a = some (.ins C dx fs) ∧ Cls K C ∧ NoAttr K C f ∧ fs.lookup f = some v ∧ Q v H1
def sFld (K : PySem.W.Frag) (ta tv : TE) (f : Str) : TS := fun D σ H => tv σ H fun y H1 => ta σ H1 fun x H2 => ∃ a C dx fs, x = .ref a ∧ H2 a = some (.ins C dx fs) ∧ Cls K C ∧ NoAttr K C f ∧ fs.length < 1000 ∧
  D.nx σ (upd H2 a (.ins C dx (putF f y fs)))
section
variable {X : Cx} {o e value : Expr} {f : Str} {pos pos' tpos : Pos} {ta tv : TE}
theorem pe_fld (he : PE X e ta) (hb : attributeBase e f X.env (eval e X.env) = eval e X.env) : PE X (.Attribute e f pos) (tFld X.K ta f) := by
  intro pins s σ H Q I h
  refine attr_of hb (thn (he pins s σ H _ I h) fun u s1 ⟨x, H1, I1, rx, a, C, dx, fs, v, ex, ea, c, n, l, q⟩ => ?_)
  subst ex
  obtain rfl : u = Value.ref a := rx
  exact getattr_ok I1 ea c n l fun u' s2 I2 ru => ⟨v, H1, I2, ru, q⟩
theorem ps_fld (ha : PE X o ta) (hv : PE X value tv) (hs : swapsWith value (some (.Attribute o f pos')) pos.line X.env = pure false) : PS X (.Assign [.Attribute o f pos'] value pos) (sFld X.K ta tv f) := by
  intro pins s σ H D I h
  refine plainObj_wpAny_Assign_Attribute (thn (hv pins s σ H _ I h) fun u s1 ⟨y, H1, I1, ry, q⟩ => thn (ha pins s1 σ H1 _ I1 q) fun ov s2 ⟨x, H2, I2, rx, a, C, dx, fs, ex, ea, c, n, l, q2⟩ => ?_) hs
  subst ex
  obtain rfl : ov = Value.ref a := rx
  exact setattr_ok I2 ea c n l ry fun s3 I3 => ⟨σ, _, I3, q2⟩
end
end L2
namespace L2
open PySem PySem.Spec PyProof.Rows
structure Room (k : Nat) (A : Around) : Prop where
  hd : A.handled = none
  dp : A.depth + 3 * k + 5 < recursionLimit
  un : A.units + 16 * k + 200 < cLine
theorem Room.mono {j k : Nat} {A : Around} (r : Room k A) (h : j ≤ k) : Room j A := ⟨r.hd, by have := r.dp; omega, by have := r.un; omega⟩
theorem Room.deeper {k : Nat} {A : Around} (r : Room (k + 1) A) (env : Env) : Room k (A.deeper env) :=
  ⟨r.hd, by have := r.dp; show A.depth + 1 + 3 * k + 5 < _; omega, by have := r.un; show A.units + 3 + 16 * k + 200 < _; omega⟩
theorem Room.in1 {k : Nat} {A : Around} (r : Room (k + 1) A) : Room k A.in1 :=
  ⟨r.hd, by have := r.dp; show A.depth + 3 * k + 5 < _; omega, by have := r.un; show A.units + 1 + 16 * k + 200 < _; omega⟩
theorem make_depth {A : Around} {C : Addr} {us : List Value} {kw : List (Str × Value)} : (A.under (.builtin "type.__call__" ⟨.ref C :: us, kw⟩)).depth = A.depth + 1 := by
  first | rfl | simp [Around.under, Code.weight, Code.isCreation, Code.isGuard, Code.isCaller, Code.frames, Code.isFrame, guardIds]
theorem make_units {A : Around} {C : Addr} {us : List Value} {kw : List (Str × Value)} : (A.under (.builtin "type.__call__" ⟨.ref C :: us, kw⟩)).units = A.units + 1 := by
  first | rfl | simp [Around.under, Code.cUnits, Code.frames, Code.isFrame]
theorem Room.make {k : Nat} {A : Around} (r : Room (k + 1) A) (C : Addr) (us : List Value) (kw : List (Str × Value)) : Room k (A.under (.builtin "type.__call__" ⟨.ref C :: us, kw⟩)) :=
  ⟨r.hd, by have := r.dp; rw [make_depth]; omega, by have := r.un; rw [make_units]; omega⟩
theorem Room.depth {k : Nat} {A : Around} (r : Room k A) : A.depth < recursionLimit := by have := r.dp; omega
theorem Room.units {k : Nat} {A : Around} (r : Room k A) : A.units + 64 < cLine := by have := r.un; omega
def tNil : TA := fun _ H Q => Q [] H
def tCons (ta : TE) (tr : TA) : TA := fun σ H Q => ta σ H fun x H1 => tr σ H1 fun xs H2 => Q (x :: xs) H2
section
variable {X : Cx} {e : Expr} {es : List Expr} {te : TE} {t : TA} {pos : Pos}
theorem pa_nil : PA X [] tNil := fun _ _ _ _ H Q I h => Calls.spliced_nil ⟨[], H, I, .nil, h⟩
theorem pa_cons (ha : PE X e te) (hr : PA X es t) (hs : starEach (e :: es) X.env = (false, eval e X.env) :: starEach es X.env := by rfl) : PA X (e :: es) (tCons te t) := by
  intro pos pins s σ H Q I h
  rw [hs]
  show wpAny _ _ (spliced ((false, eval e X.env) :: backTo pos (starEach es X.env))) _ _ s
  refine Calls.spliced_cons (thn (ha pins s σ H _ I h) fun u s1 ⟨x, H1, I1, r1, q1⟩ => ?_)
  exact thn (hr pos pins s1 σ H1 _ I1 q1) fun us s2 ⟨xs, H2, I2, r2, q2⟩ => ⟨x :: xs, H2, I2, .cons r1 r2, q2⟩
def tTup (t : TA) : TE := fun σ H Q => t σ H fun xs H1 => xs.length ≤ sizeLine ∧ ∀ p, H1 p = none → Q (.ref p) (upd H1 p (.tup xs))
def tLst (t : TA) : TE := fun σ H Q => t σ H fun xs H1 => xs.length ≤ sizeLine ∧ ∀ p, H1 p = none → Q (.ref p) (upd H1 p (.lst xs))
theorem pe_tup {x1} (h : PA X es t) : PE X (.Tuple es x1 pos) (tTup t) := by
  intro pins s σ H Q I hq
  refine wpAny_Tuple_spliced (thn (h pos pins s σ H _ I hq) fun us s1 ⟨xs, H1, I1, r, z, q⟩ => ⟨by rw [← r.length]; exact z, ?_⟩)
  have hf : H1 s1.heap.objs.size = none := I1.hok.fresh (Nat.le_refl _)
  refine ⟨.ref s1.heap.objs.size, upd H1 s1.heap.objs.size (.tup xs), I1.laid (t' := s1.toks) (fun b u e => Heap.get?_push_of_some _ e) (Nat.le_refl _) ?_, rfl, q _ hf⟩
  exact ⟨z, us, r, ⟨_, Heap.get?_push_size _ rfl, rfl, _, rfl⟩⟩
theorem pe_lst (h : PA X es t) : PE X (.List es pos) (tLst t) := by
  intro pins s σ H Q I hq
  refine wpAny_List_spliced (thn (h pos pins s σ H _ I hq) fun us s1 ⟨xs, H1, I1, r, z, q⟩ => ⟨by rw [← r.length]; exact z, ?_⟩)
  have hf : H1 s1.heap.objs.size = none := I1.hok.fresh (Nat.le_refl _)
  refine ⟨.ref s1.heap.objs.size, upd H1 s1.heap.objs.size (.lst xs), I1.laid (t' := s1.toks) (fun b u e => Heap.get?_push_of_some _ e) (Nat.le_refl _) ?_, rfl, q _ hf⟩
  exact ⟨z, us, 0, r, Heap.get?_push_size _ rfl⟩
end
abbrev Sp := List V → Hp → VK → XK → Prop
abbrev CXT := List Env → Hp → Shared → XK → Value → Shared → Prop
structure Env0 (P : Program) (w : World) (K : PySem.W.Frag) (mg : Str → Option Value) (base : Heap) (A : Around) (outer : List Env) (s : Shared) (H : Hp) : Prop where
  frames : A.frames = some outer
  mod : Mod K mg base
  bs : ∀ b o, base.get? b = some o → s.heap.get? b = some o ∧ H b = none
  bsz : base.objs.size ≤ s.heap.objs.size
  funs : s.heap.FunFrames base outer
  frf : ∀ b ∈ frs outer, H b = none
  hok : HOk P w H s.heap
  bare : AllBare s.gens
def CE (outer : List Env) (P : Program) (w : World) (H : Hp) (s : Shared) (Q : VK) (u : Value) (s' : Shared) : Prop :=
  ∃ v H', s'.os = s.os ∧ AllBare s'.gens ∧ Un (frs outer) [] H H' s.heap s'.heap ∧ HOk P w H' s'.heap ∧ RelV v u ∧ Q v H'
def CR (CX : CXT) (outer : List Env) (P : Program) (w : World) (H : Hp) (s : Shared) (Q : VK) (E : XK) (r : Result) (s' : Shared) : Prop :=
  match r with
  | .ok (.ret u) => CE outer P w H s Q u s'
  | .ok _ => False
  | .error e => CX outer H s E e s'
structure FnOk (P : Program) (w : World) (K : PySem.W.Frag) (mg : Str → Option Value) (base : Heap) (CX : CXT) (k : Nat) (f : Addr) (fd : FuncData) (ps : List Str) (sp : Sp) : Prop where
  len : ∀ vs H Q E, sp vs H Q E → vs.length = ps.length
  run : ∀ (A : Around) (outer : List Env) (s : Shared) (H : Hp) (args : Args) (us : List Value) (vs : List V) (Q : VK) (E : XK), Room k A → Env0 P w K mg base A outer s H → BindsTo s fd args (ps.zip us) → Vals vs us → sp vs H Q E →
    codeAny (model P w) A (.call (.ref f) args) (CR CX outer P w H s Q E) s
theorem FnOk.mono {P : Program} {w : World} {K : PySem.W.Frag} {mg : Str → Option Value} {base : Heap} {CX : CXT} {j k : Nat} {f : Addr} {fd : FuncData} {ps : List Str} {sp : Sp} (F : FnOk P w K mg base CX j f fd ps sp) (h : j ≤ k) :
    FnOk P w K mg base CX k f fd ps sp := ⟨F.len, fun A outer s H args us vs Q E hr => F.run A outer s H args us vs Q E (hr.mono h)⟩
theorem FnOk.imp {P : Program} {w : World} {K : PySem.W.Frag} {mg : Str → Option Value} {base : Heap} {CX : CXT} {k : Nat} {f : Addr} {fd : FuncData} {ps : List Str} {sp sp' : Sp} (F : FnOk P w K mg base CX k f fd ps sp)
    (h : ∀ vs H Q E, sp' vs H Q E → sp vs H Q E) : FnOk P w K mg base CX k f fd ps sp' :=
  ⟨fun vs H Q E q => F.len vs H Q E (h _ _ _ _ q), fun A outer s H args us vs Q E hr he hb hv hs => F.run A outer s H args us vs Q E hr he hb hv (h _ _ _ _ hs)⟩
theorem Env0.make {P : Program} {w : World} {K : PySem.W.Frag} {mg : Str → Option Value} {base : Heap} {A : Around} {outer : List Env} {s : Shared} {H : Hp} (e : Env0 P w K mg base A outer s H) (C : Addr) (us : List Value) (kw : List (Str × Value)) :
    Env0 P w K mg base (A.under (.builtin "type.__call__" ⟨.ref C :: us, kw⟩)) outer s H := ⟨by first | exact e.frames | (simpa [Around.under, Code.envs, Code.isFrame, pushEnvs] using e.frames), e.mod, e.bs, e.bsz, e.funs, e.frf, e.hok, e.bare⟩
theorem Env0.in1 {P : Program} {w : World} {K : PySem.W.Frag} {mg : Str → Option Value} {base : Heap} {A : Around} {outer : List Env} {s : Shared} {H : Hp} (e : Env0 P w K mg base A outer s H) :
    Env0 P w K mg base A.in1 outer s H := ⟨e.frames, e.mod, e.bs, e.bsz, e.funs, e.frf, e.hok, e.bare⟩
section
variable {X : Cx} {pins : List (Addr × Obj)} {σ : St} {H : Hp} {s s' : Shared}
theorem Inv.env0 (I : Inv X pins σ H s) : Env0 X.prog X.w X.K X.mg X.base X.A X.stack s H :=
  ⟨I.ok.frames, I.ok.mod, I.bs, Nat.le_trans I.ok.bsz I.sz, I.stack, I.stkFree, I.hok, I.bare⟩
theorem Inv.after {Q : VK} {u : Value} (I : Inv X pins σ H s) (h : CE X.stack X.prog X.w H s Q u s') : EP X pins σ Q u s' := by
  obtain ⟨v, H', os, bare, un, hok, r, q⟩ := h
  obtain ⟨hh, g, d, t, os'⟩ := s'
  obtain rfl : os' = s.os := os
  exact ⟨v, H', I.call (h' := hh) (g' := g) (d' := d) (t' := t) (ch := []) un hok bare (fun b z => absurd z (by simp)), r, q⟩
end
def tCall (sp : Sp) (dvs : List V) (E : XK) (t : TA) : TE := fun σ H Q => t σ H fun vs H1 => sp (vs ++ dvs) H1 Q E
def tMeth (C : Addr) (m : Str) (sp : Sp) (dvs : List V) (E : XK) (ta : TE) (t : TA) : TE := fun σ H Q => ta σ H fun x H1 => ∃ a dx fs, x = .ref a ∧ H1 a = some (.ins C dx fs) ∧ fs.lookup m = none ∧
  t σ H1 fun vs H2 => sp (x :: (vs ++ dvs)) H2 Q E
def tMake (C : Addr) (sp : Sp) (dvs : List V) (E : XK) (t : TA) : TE := fun σ H Q => t σ H fun vs H1 => ∀ x dx, H1 x = none → H1 dx = none → dx ≠ x →
  sp (.ref x :: (vs ++ dvs)) (upd (upd H1 dx (.own x)) x (.ins C dx [])) (fun v H2 => v = .non ∧ Q (.ref x) H2) E
def Binds (K : PySem.W.Frag) (fd : FuncData) (ps : List Str) (ds : List Value) : Prop :=
  ∀ (s : Shared) (us : List Value), K.In s.heap → (us ++ ds).length = ps.length → BindsTo s fd ⟨us, []⟩ (ps.zip (us ++ ds))
theorem Binds.all {K : PySem.W.Frag} {fd : FuncData} {ps : List Str} (h : ∀ us : List Value, us.length = ps.length → bindArgs fd ⟨us, []⟩ = pure (ps.zip us)) : Binds K fd ps [] := fun s us _ hl => by
  rw [List.append_nil] at hl ⊢
  exact .of_eq (h us hl)
def Passes (CX : CXT) (X : Cx) (E : XK) : Prop := ∀ (pins : List (Addr × Obj)) (σ : St) (H : Hp) (s : Shared) (e : Value) (s' : Shared), Inv X pins σ H s → CX X.stack H s E e s' → X.xe e s'
section
variable {X : Cx} {CX : CXT} {k : Nat} {f C : Addr} {fd : FuncData} {ps : List Str} {sp : Sp} {dvs : List V} {ds : List Value} {E : XK} {x m : Str} {p pos apos : Pos} {e o : Expr} {es : List Expr} {ta : TE} {t : TA}
theorem run_fn {pins : List (Addr × Obj)} {σ : St} {H : Hp} {s : Shared} {Q : VK} {us : List Value} {vs : List V} (F : FnOk X.prog X.w X.K X.mg X.base CX k f fd ps sp) (hr : Room k X.A) (hb : Binds X.K fd ps ds) (hd : Vals dvs ds) (hx : Passes CX X E)
    (I : Inv X pins σ H s) (r : Vals vs us) (h : sp (vs ++ dvs) H Q E) : wpAny (model X.prog X.w) X.A (call (.ref f) us) (EP X pins σ Q) X.xe s := by
  have r2 : Vals (vs ++ dvs) (us ++ ds) := r.append hd
  have hl : (us ++ ds).length = ps.length := by rw [← r2.length]; exact F.len _ _ _ _ h
  refine wpAny_call (codeAny_mono (F.run X.A X.stack s H ⟨us, []⟩ (us ++ ds) (vs ++ dvs) Q E hr I.env0 (hb s us I.kIn hl) r2 h) fun r s' hq => ?_)
  cases r with
  | error e => exact hx pins σ H s e s' I hq
  | ok fl =>
    cases fl with
    | ret u => exact I.after hq
    | next => exact False.elim hq
    | brk => exact False.elim hq
    | cont => exact False.elim hq
theorem pe_call (F : FnOk X.prog X.w X.K X.mg X.base CX k f fd ps sp) (hr : Room k X.A) (hg : Gl X x) (hm : X.mg x = some (.ref f)) (hk : PySem.W.keepIn X.K (.ref f) = true) (hb : Binds X.K fd ps ds) (hd : Vals dvs ds) (hx : Passes CX X E)
    (ha : PA X (e :: es) t) (hdb : (x == ("__debug__" : Str)) = false := by decide) (he : starEach (e :: es) X.env = (false, eval e X.env) :: starEach es X.env := by rfl) (hpl : (backTo pos (starEach es X.env)).any (·.1) = false := by rfl) :
    PE X (.Call (.Name x p) (e :: es) [] pos) (tCall sp dvs E t) := by
  intro pins s σ H Q I h
  refine wpAny_Call_Name_kw (ld_glob I hg hm ?_ hdb)
  refine PySem.W.callWith_K (h₀ := X.base) I.ok.mod.kin hk (thn (ha pos pins s σ H _ I h) fun us s1 ⟨vs, H1, I1, r, q⟩ => ⟨I1.kIn, ?_⟩) he hpl
  exact run_fn F hr hb hd hx I1 r q
theorem pe_meth {pl : Sem Bool} (he : PE X o ta) (c : Cls X.K C) (hm : Meth X.K C m f) (F : FnOk X.prog X.w X.K X.mg X.base CX k f fd ps sp) (hr : Room k X.A) (hb : Binds X.K fd ps ds) (hd : Vals dvs ds) (hx : Passes CX X E) (ha : PA X (e :: es) t)
    (hst : starEach (e :: es) X.env = (false, eval e X.env) :: starEach es X.env := by rfl) (hpl : (backTo pos (starEach es X.env)).any (·.1) = false := by rfl)
    (ht : eval (.Call (.Attribute o m apos) (e :: es) [] pos) X.env = (do
      let ov ← eval o X.env
      standAt apos.atName
      let (f, first) ← holding [ov] (getMethod ov m pl)
      callWith pos f first (backTo pos (starEach (e :: es) X.env)) (backToKw pos (keywordEach [] X.env))) := by rfl) :
    PE X (.Call (.Attribute o m apos) (e :: es) [] pos) (tMeth C m sp dvs E ta t) := by
  intro pins s σ H Q I h
  refine PySem.W.methodCall_KW (pl := pl) (thn (he pins s σ H _ I h) fun u s1 ⟨x, H1, I1, rx, a, dx, fs, ex, ea, l, q⟩ => ?_) ht
  subst ex
  obtain rfl : u = Value.ref a := rx
  refine getmeth_ok I1 ea c hm l ?_
  refine PySem.W.callWith_K (first := [.ref a]) (h₀ := X.base) I.ok.mod.kin hm.kp (thn (ha pos pins s1 σ H1 _ I1 q) fun us s2 ⟨vs, H2, I2, r, q2⟩ => ⟨I2.kIn, ?_⟩) hst hpl
  exact run_fn (us := .ref a :: us) (vs := .ref a :: vs) F hr hb hd hx I2 (.cons rfl r) q2
theorem pe_meth0 {pl : Sem Bool} (he : PE X o ta) (c : Cls X.K C) (hm : Meth X.K C m f) (F : FnOk X.prog X.w X.K X.mg X.base CX k f fd ps sp) (hr : Room k X.A) (hb : Binds X.K fd ps ds) (hd : Vals dvs ds) (hx : Passes CX X E)
    (ht : eval (.Call (.Attribute o m apos) [] [] pos) X.env = (do
      let ov ← eval o X.env
      standAt apos.atName
      let (f, first) ← holding [ov] (getMethod ov m pl)
      callWith pos f first (backTo pos (starEach [] X.env)) (backToKw pos (keywordEach [] X.env))) := by rfl) :
    PE X (.Call (.Attribute o m apos) [] [] pos) (tMeth C m sp dvs E ta tNil) := by
  intro pins s σ H Q I h
  refine PySem.W.methodCall_KW (pl := pl) (thn (he pins s σ H _ I h) fun u s1 ⟨x, H1, I1, rx, a, dx, fs, ex, ea, l, q⟩ => ?_) ht
  subst ex
  obtain rfl : u = Value.ref a := rx
  refine getmeth_ok I1 ea c hm l ?_
  exact PySem.W.callWith_K0 (first := [.ref a]) I1.kIn hm.kp (run_fn (us := [.ref a]) (vs := [.ref a]) F hr hb hd hx I1 (.cons rfl .nil) q)
structure Mk (K : PySem.W.Frag) (C f : Addr) : Prop where
  makes : PySem.W.makesIn K C = true
  init : PySem.W.findIn K (.ref C) "__init__" = some (some (.ref f))
  fn : PySem.W.isFn K (.ref f) = true
  kp : PySem.W.keepIn K (.ref C) = true
theorem run_make {pins : List (Addr × Obj)} {σ : St} {H : Hp} {s : Shared} {Q : VK} {us : List Value} {vs : List V} (M : Mk X.K C f) (F : FnOk X.prog X.w X.K X.mg X.base CX k f fd ps sp) (hr : Room (k + 1) X.A) (hb : Binds X.K fd ps ds) (hd : Vals dvs ds)
    (hx : Passes CX X E) (I : Inv X pins σ H s) (r : Vals vs us)
    (h : ∀ x dx, H x = none → H dx = none → dx ≠ x → sp (.ref x :: (vs ++ dvs)) (upd (upd H dx (.own x)) x (.ins C dx [])) (fun v H2 => v = .non ∧ Q (.ref x) H2) E) :
    wpAny (model X.prog X.w) X.A (call (.ref C) us) (EP X pins σ Q) X.xe s := by
  have hq := h (s.heap.objs.size + 1) s.heap.objs.size (I.hok.fresh (Nat.le_succ _)) (I.hok.fresh (Nat.le_refl _)) (Nat.ne_of_lt (Nat.lt_succ_self _))
  have I2 := Inv.made (C := C) I
  have r2 : Vals (V.ref (s.heap.objs.size + 1) :: (vs ++ dvs)) (Value.ref (s.heap.objs.size + 1) :: (us ++ ds)) := .cons rfl (r.append hd)
  have hl : (Value.ref (s.heap.objs.size + 1) :: us ++ ds).length = ps.length := by
    have e := r2.length
    rw [F.len _ _ _ _ hq] at e
    exact e.symm
  refine wpAny_call (make_map (f := f) I.kIn M.makes M.init (beq_iff_eq.mp M.fn) (codeAny_mono (F.run _ X.stack _ _ ⟨Value.ref (s.heap.objs.size + 1) :: us, []⟩ (Value.ref (s.heap.objs.size + 1) :: (us ++ ds)) _ _ E (hr.make C us [])
    (I2.env0.make C us []) (hb _ (Value.ref (s.heap.objs.size + 1) :: us) I2.kIn hl) r2 hq) fun r s' hq' => ?_))
  cases r with
  | error e => exact hx pins σ _ _ e s' I2 hq'
  | ok fl =>
    cases fl with
    | ret u =>
      obtain ⟨v, H', I3, rv, ev, q3⟩ := I2.after hq'
      subst ev
      exact ⟨rv, ⟨V.ref (s.heap.objs.size + 1), H', I3, rfl, q3⟩⟩
    | next => exact False.elim hq'
    | brk => exact False.elim hq'
    | cont => exact False.elim hq'
theorem pe_make (M : Mk X.K C f) (F : FnOk X.prog X.w X.K X.mg X.base CX k f fd ps sp) (hr : Room (k + 1) X.A) (hg : Gl X x) (hm : X.mg x = some (.ref C)) (hb : Binds X.K fd ps ds) (hd : Vals dvs ds) (hx : Passes CX X E)
    (ha : PA X (e :: es) t) (hdb : (x == ("__debug__" : Str)) = false := by decide) (he : starEach (e :: es) X.env = (false, eval e X.env) :: starEach es X.env := by rfl) (hpl : (backTo pos (starEach es X.env)).any (·.1) = false := by rfl) :
    PE X (.Call (.Name x p) (e :: es) [] pos) (tMake C sp dvs E t) := by
  intro pins s σ H Q I h
  refine wpAny_Call_Name_kw (ld_glob I hg hm ?_ hdb)
  refine PySem.W.callWith_K (h₀ := X.base) I.ok.mod.kin M.kp (thn (ha pos pins s σ H _ I h) fun us s1 ⟨vs, H1, I1, r, q⟩ => ⟨I1.kIn, ?_⟩) he hpl
  exact run_make M F hr hb hd hx I1 r q
end
structure FnScope (N P : List Str) (sc : Scope) : Prop where
  kind : sc.kind = .function
  co : sc.isCoroutine = false
  gen : sc.isGenerator = false
  nd : N.Nodup
  pre : N.take P.length = P
  par : ∀ x ∈ P, sc.names.lookup x = some .local ∨ sc.names.lookup x = some .cell
  nofree : ∀ y ∈ sc.names, y.2 ≠ .free
theorem bindL_out {kindOf : Str → Option NameKind} {x : Str} : ∀ {binds : List (Str × Value)} {m : Str → Option Value}, (∀ v, (x, v) ∉ binds) → bindL kindOf binds m x = m x
  | [], _, _ => rfl
  | (n, v) :: r, m, h => by
    unfold bindL
    rw [bindL_out fun w hw => h w (List.mem_cons_of_mem _ hw)]
    split
    · have : x ≠ n := by rintro rfl; exact h v List.mem_cons_self
      simp [this]
    · rfl
theorem bindC_out {kindOf : Str → Option NameKind} {x : Str} : ∀ {binds : List (Str × Value)} {m : Str → Option Value}, (∀ v, (x, v) ∉ binds) → bindC kindOf binds m x = m x
  | [], _, _ => rfl
  | (n, v) :: r, m, h => by
    unfold bindC
    rw [bindC_out fun w hw => h w (List.mem_cons_of_mem _ hw)]
    split
    · rfl
    · have : x ≠ n := by rintro rfl; exact h v List.mem_cons_self
      simp [this]
theorem bindL_get {kindOf : Str → Option NameKind} {x : Str} {v : Value} : ∀ {P : List Str} {vs : List Value} {i : Nat} {m : Str → Option Value}, P.Nodup → P[i]? = some x → vs[i]? = some v → kindOf x = some .local →
    bindL kindOf (P.zip vs) m x = some v
  | [], _, _, _, _, h, _, _ => by simp at h
  | _ :: _, [], _, _, _, _, h, _ => by simp at h
  | p :: P, w :: vs, 0, m, nd, h1, h2, hk => by
    simp at h1 h2; subst h1; subst h2
    show bindL kindOf ((p, w) :: P.zip vs) m p = _
    unfold bindL
    rw [bindL_out fun v hv => (List.nodup_cons.mp nd).1 (List.of_mem_zip hv).1, if_pos hk]
    simp
  | p :: P, w :: vs, i + 1, m, nd, h1, h2, hk => by
    show bindL kindOf ((p, w) :: P.zip vs) m x = _
    unfold bindL
    exact bindL_get (i := i) (List.nodup_cons.mp nd).2 (by simpa using h1) (by simpa using h2) hk
theorem bindC_get {kindOf : Str → Option NameKind} {x : Str} {v : Value} : ∀ {P : List Str} {vs : List Value} {i : Nat} {m : Str → Option Value}, P.Nodup → P[i]? = some x → vs[i]? = some v → kindOf x ≠ some .local →
    bindC kindOf (P.zip vs) m x = some v
  | [], _, _, _, _, h, _, _ => by simp at h
  | _ :: _, [], _, _, _, _, h, _ => by simp at h
  | p :: P, w :: vs, 0, m, nd, h1, h2, hk => by
    simp at h1 h2; subst h1; subst h2
    show bindC kindOf ((p, w) :: P.zip vs) m p = _
    unfold bindC
    rw [bindC_out fun v hv => (List.nodup_cons.mp nd).1 (List.of_mem_zip hv).1, if_neg hk]
    simp
  | p :: P, w :: vs, i + 1, m, nd, h1, h2, hk => by
    show bindC kindOf ((p, w) :: P.zip vs) m x = _
    unfold bindC
    exact bindC_get (i := i) (List.nodup_cons.mp nd).2 (by simpa using h1) (by simpa using h2) hk
def start (N : List Str) (vs : List V) : St := vs.map some ++ List.replicate (N.length - vs.length) none
def cxOf (CX : CXT) (P : Program) (w : World) (K : PySem.W.Frag) (mg : Str → Option Value) (base : Heap) (N : List Str) (qual : Str) (scope : Scope) (f : Addr) (cd : Value) (A : Around) (outer : List Env) (s : Shared) (H : Hp) (E : XK) : Cx where
  prog := P
  w := w
  K := K
  mg := mg
  base := base
  A := A.deeper (envOfC qual scope s.heap.objs.size f cd)
  N := N
  s₀ := s
  H₀ := H
  env := envOfC qual scope s.heap.objs.size f cd
  outer := outer
  stack := envOfC qual scope s.heap.objs.size f cd :: outer
  ex := []
  calm := true
  fn := fun _ => true
  pn := []
  xe := fun e s' => wpAny (model P w) (A.deeper (envOfC qual scope s.heap.objs.size f cd)) (leaving (envOfC qual scope s.heap.objs.size f cd) e) (fun _ s'' => CX outer H s E e s'') (fun e' s'' => CX outer H s E e' s'') s'
theorem cell_has {sc : Scope} {n : Nat} {x : Str} (h : sc.names.lookup x = some .cell) : ∃ c, (cellsFrom n sc.names []).lookup x = some c := by
  have q := PySem.W.cellsFrom_some sc.names n [] (.inl h)
  exact Option.isSome_iff_exists.mp q
theorem inv_start {CX : CXT} {P : Program} {w : World} {K : PySem.W.Frag} {mg : Str → Option Value} {base : Heap} {N ps : List Str} {qual : Str} {scope : Scope} {f : Addr} {cd : Value} {A : Around} {outer : List Env} {s s1 : Shared} {H : Hp} {E : XK} {us : List Value} {vs : List V}
    (S : FnScope N ps scope) (hd : A.handled = none) (e0 : Env0 P w K mg base A outer s H) (hl : vs.length = ps.length) (r : Vals vs us)
    (x : InCallC s s.heap.objs.size (bindL (envOfC qual scope s.heap.objs.size f cd).kindOf (ps.zip us) fun _ => none) (cellsFrom (s.heap.objs.size + 1) scope.names []) (bindC (envOfC qual scope s.heap.objs.size f cd).kindOf (ps.zip us) fun _ => none) s1) :
    Inv (cxOf CX P w K mg base N qual scope f cd A outer s H E) [] (start N vs) H s1 := by
  have hpl : ps.length ≤ N.length := by have := congrArg List.length S.pre; rw [List.length_take] at this; omega
  obtain ⟨h1, tk, rfl, hk⟩ := x.done
  have noA : ∀ b : Addr, b ∉ (cxOf CX P w K mg base N qual scope f cd A outer s H E).ex := fun b z => absurd (show b ∈ ([] : List Addr) from z) (by simp)
  refine ⟨⟨e0.mod, S.kind, rfl, rfl, Nat.le_refl _, fun y z c h1 h2 => ?_, fun y hy => ?_, fun y c _ h => ?_, fun _ => hd, Around.frames_deeper e0.frames, .inr ⟨rfl, rfl⟩, fun b z => absurd z (noA b), e0.bs, e0.bsz, fun b _ _ => noA b, fun b z => absurd z (noA b), e0.funs, e0.frf⟩,
    rfl, e0.bare, Un.kept hk, ⟨_, x.toInCall.ns, fun i y v h1 h2 h3 => ?_⟩, fun y c h => ⟨_, x.cell y c h⟩, e0.hok.fresh (Nat.le_refl _), fun y c h => ?_, fun p hp => absurd (show p ∈ ([] : List (Addr × Obj)) from hp) (by simp), e0.hok.kept hk, ?_⟩
  · exact name_of_addr x.apart (PySem.mem_of_lookup h1) (PySem.mem_of_lookup h2)
  · have hy : scope.names.lookup y = some .cell ∨ scope.names.lookup y = some .free := hy
    rcases hy with hy | hy
    · exact cell_has hy
    · exact absurd rfl (S.nofree _ (PySem.mem_of_lookup hy))
  · exact Nat.le_of_lt (x.above y c (PySem.mem_of_lookup h))
  · have hi : i < vs.length := by
      unfold start at h2
      by_cases hi : i < vs.length
      · exact hi
      · rw [List.getElem?_append_right (by simpa using hi)] at h2
        rw [List.getElem?_replicate] at h2
        split at h2 <;> cases h2
    have ha : vs[i]? = some v := by
      unfold start at h2
      rw [List.getElem?_append_left (by simpa using hi), List.getElem?_map] at h2
      cases e : vs[i]? with
      | none => rw [e] at h2; cases h2
      | some a => rw [e] at h2; cases h2; rfl
    obtain ⟨u, hu, rv⟩ := r.get ha
    have hp : ps[i]? = some y := by
      rw [← S.pre, List.getElem?_take_of_lt (by omega)]; exact h1
    have ndP : ps.Nodup := by rw [← S.pre]; exact S.nd.sublist (List.take_sublist _ _)
    refine ⟨u, rv, ?_⟩
    rcases S.par y (List.mem_of_getElem? hp) with k | k
    · exact .inl ⟨k, bindL_get ndP hp hu k⟩
    · obtain ⟨c, e⟩ := cell_has (n := s.heap.objs.size + 1) k
      refine .inr ⟨.inl k, c, e, ?_⟩
      have q := x.cell y c e
      rw [bindC_get ndP hp hu (by show scope.names.lookup y ≠ _; rw [k]; decide)] at q
      exact q
  · exact e0.hok.fresh (Nat.le_of_lt (x.above y c (PySem.mem_of_lookup h)))
  · unfold start
    show _ = N.length
    rw [List.length_append, List.length_map, List.length_replicate]
    omega
theorem fn_of {CX : CXT} {P : Program} {w : World} {K : PySem.W.Frag} {mg : Str → Option Value} {base : Heap} {k : Nat} {f : Addr} {name qual : Str} {params : Arguments} {body : List Stmt} {scope : Scope} {dV kV doc pm cdv ct oc : Value} {an od : Option Addr}
    {osl : Array (Option Value)} {N ps : List Str} {sp : Sp} (lk : K.lookup f = some ⟨oc, od, .func (PySem.W.fnOf name qual params body scope dV kV doc pm an cdv ct), osl⟩) (hcd : PySem.W.codeIn K cdv qual = true) (S : FnScope N ps scope)
    (len : ∀ vs H Q E, sp vs H Q E → vs.length = ps.length)
    (hbody : ∀ (A : Around) (outer : List Env) (s : Shared) (H : Hp) (vs : List V) (Q : VK) (E : XK), Room k (A.deeper (envOfC qual scope s.heap.objs.size f cdv)) → sp vs H Q E →
      ∃ t, PSs (cxOf CX P w K mg base N qual scope f cdv A outer s H E) body t ∧ t { nx := fun _ H' => Q .non H', rt := Q } (start N vs) H) :
    FnOk P w K mg base CX (k + 1) f (PySem.W.fnOf name qual params body scope dV kV doc pm an cdv ct) ps sp := by
  refine ⟨len, fun A outer s H args us vs Q E hr e0 hb r hsp => ?_⟩
  have hl := len _ _ _ _ hsp
  have KX : K.In s.heap := e0.mod.kin.keeps fun b o e => (e0.bs b o e).1
  have lim : s.heap.NoLimit := e0.mod.nolimit.keeps fun b o e => (e0.bs b o e).1
  have hkind : ∀ y ∈ ps.zip us, scope.names.lookup y.1 = some .local ∨ (scope.names.lookup y.1 = some .cell ∧ ((cellsFrom (s.heap.objs.size + 1) scope.names []).lookup y.1).isSome = true) := fun ⟨n, v⟩ hy => by
    rcases S.par n (List.of_mem_zip hy).1 with q | q
    · exact .inl q
    · exact .inr ⟨q, PySem.W.cellsFrom_some _ _ _ (.inl q)⟩
  refine codeAny_call_function hr.depth (KX _ _ lk) rfl S.co S.gen rfl (PySem.W.codeRec_of KX hcd) (hb _ _ _ _ ?_)
  refine wpAny_newFunctionEnv_cells S.kind hkind fun env he s1 x => ?_
  subst he
  refine ⟨lim.keeps x.toInCall.keep, codeAny_func ?_⟩
  obtain ⟨t, ht, hq⟩ := hbody A outer s H vs Q E (hr.deeper _) hsp
  have I : Inv (cxOf CX P w K mg base N qual scope f cdv A outer s H E) [] (start N vs) H s1 := inv_start S hr.hd e0 hl r x
  refine wpAny_mono (ht [] s1 (start N vs) H _ I hq) (fun fl s' hs => ?_) fun e s' hs => hs
  have fin : ∀ {σ' : St} {H' : Hp} {v : V} {u : Value}, Inv (cxOf CX P w K mg base N qual scope f cdv A outer s H E) [] σ' H' s' → RelV v u → Q v H' → CE outer P w H s Q u s' :=
    fun {σ' H' v u} J rv q => ⟨v, H', J.os, J.bare, J.base, J.hok, rv, q⟩
  cases fl with
  | ret u =>
    obtain ⟨v, σ', H', J, rv, q⟩ := hs
    exact fin J rv q
  | next =>
    obtain ⟨σ', H', J, q⟩ := hs
    exact fin (v := V.non) (u := Value.none) J rfl q
  | brk =>
    obtain ⟨_, _, _, q⟩ := hs
    exact False.elim q
  | cont =>
    obtain ⟨_, _, _, q⟩ := hs
    exact False.elim q
end L2
namespace L2
open PySem PySem.Spec PyProof.Rows
section
variable {X : Cx} {x : Str} {p pos : Pos} {e : Expr} {es : List Expr} {t : TA} {id T : String} {r : List V → Hp → VK → Prop}
def tCB (r : List V → Hp → VK → Prop) (t : TA) : TE := fun σ H Q => t σ H fun vs H1 => r vs H1 Q
theorem pe_callB (hc : CallR X (.builtin id) r) (hg : Gl X x) (hm : X.mg x = none) (hv : bootBuiltins x = some (.builtin id)) (ha : PA X (e :: es) t) (hn : x ≠ "__name__" := by decide) (hdb : (x == ("__debug__" : Str)) = false := by decide)
    (he : starEach (e :: es) X.env = (false, eval e X.env) :: starEach es X.env := by rfl) (hpl : (backTo pos (starEach es X.env)).any (·.1) = false := by rfl) : PE X (.Call (.Name x p) (e :: es) [] pos) (tCB r t) := by
  intro pins s σ H Q I h
  refine wpAny_Call_Name_kw (ld_blt I hg hm hv ?_ hn hdb)
  exact PyProof.Rows.callWith_builtin1 (thn (ha pos pins s σ H _ I h) fun us s1 ⟨vs, H1, I1, r1, q1⟩ => hc pins s1 σ H1 vs us Q I1 r1 q1) he hpl
theorem pe_callTy (hc : CallR X (.type T) r) (hg : Gl X x) (hm : X.mg x = none) (hv : bootBuiltins x = some (.type T)) (ha : PA X (e :: es) t) (hn : x ≠ "__name__" := by decide) (hdb : (x == ("__debug__" : Str)) = false := by decide)
    (he : starEach (e :: es) X.env = (false, eval e X.env) :: starEach es X.env := by rfl) (hpl : (backTo pos (starEach es X.env)).any (·.1) = false := by rfl) : PE X (.Call (.Name x p) (e :: es) [] pos) (tCB r t) := by
  intro pins s σ H Q I h
  refine wpAny_Call_Name_kw (ld_blt I hg hm hv ?_ hn hdb)
  exact PyProof.Rows.callWith_type1 (thn (ha pos pins s σ H _ I h) fun us s1 ⟨vs, H1, I1, r1, q1⟩ => hc pins s1 σ H1 vs us Q I1 r1 q1) he hpl
end
end L2
namespace HT
open PySem PyProof.Rows
section
open PySem.SeqAt
open PySem.AutoSeq1 (wpAny_loadPart')
open PySem.MeetsSeq PySem.MeetsSeq2 PySem.MeetsSeq3
end
section
variable {prog : Program} {w : World} {A : Around} {E : Value → Shared → Prop} {s : Shared}
def sIx (n d : Nat) : Option Int → Nat
  | none => d
  | some v => if v < 0 then (v + (n : Int)).toNat else min v.toNat n
theorem sIx_none (n d : Nat) : sIx n d none = d := rfl
theorem sIx_nat (n d k : Nat) : sIx n d (some (k : Int)) = min k n := by
  show (if (k : Int) < 0 then ((k : Int) + (n : Int)).toNat else min (k : Int).toNat n) = min k n
  rw [if_neg (by omega), Int.toNat_natCast]
end
end HT
namespace L2
open PySem PySem.Spec PyProof.Rows
abbrev TO := St → Hp → (Option Int → Hp → Prop) → Prop
def PO (X : Cx) (e : Option Expr) (t : TO) : Prop :=
  ∀ (pins : List (Addr × Obj)) (s : Shared) (σ : St) (H : Hp) (Q : Option Int → Hp → Prop), Inv X pins σ H s → t σ H Q →
    wpAny (model X.prog X.w) X.A (evalPart e X.env) (fun u s' => ∃ o H', Inv X pins σ H' s' ∧ IsPart u o ∧ Q o H') X.xe s
def tNoPart : TO := fun _ H Q => Q none H
def tPart (t : TE) : TO := fun σ H Q => t σ H fun x H1 => ∃ i, x = .int i ∧ Q (some i) H1
section
variable {X : Cx} {e : Expr} {te : TE} {lo hi : Option Expr} {tl th : TO} {pos p2 : Pos}
theorem po_none : PO X none tNoPart := by
  intro pins s σ H Q I h
  rw [evalPart_none]
  exact wpAny_pure ⟨none, H, I, .none, h⟩
theorem po_some (h : PE X e te) : PO X (some e) (tPart te) := by
  intro pins s σ H Q I hw
  rw [evalPart_some]
  refine thn (h pins s σ H _ I hw) fun u s1 ⟨x, H1, I1, r1, q1⟩ => ?_
  obtain ⟨i, rfl, q⟩ := q1
  obtain ⟨t, rfl⟩ := r1
  exact ⟨some i, H1, I1, .int i t, q⟩
def SlR (X : Cx) (r : V → Option Int → Option Int → Hp → VK → Prop) : Prop :=
  ∀ (pins : List (Addr × Obj)) (s : Shared) (σ : St) (H : Hp) (x : V) (v vl vu : Value) (lo hi : Option Int) (sl : Addr) (Q : VK), Inv X pins σ H s → RelV x v → s.heap.IsSliceOf sl vl vu .none → IsPart vl lo → IsPart vu hi → r x lo hi H Q →
    ∃ T id, typeLookup (.type T) "__getitem__" = pure (some (.builtin id)) ∧ s.TypeIs v T ∧ wpAny (model X.prog X.w) X.A (getItem v (.ref sl)) (EP X pins σ Q) X.xe s
theorem SlR.or {r r' : V → Option Int → Option Int → Hp → VK → Prop} (h : SlR X r) (h' : SlR X r') : SlR X (fun x lo hi H Q => r x lo hi H Q ∨ r' x lo hi H Q) := by
  intro pins s σ H x v vl vu lo hi sl Q I rx hs pl pu q
  rcases q with q | q
  · exact h pins s σ H x v vl vu lo hi sl Q I rx hs pl pu q
  · exact h' pins s σ H x v vl vu lo hi sl Q I rx hs pl pu q
def tSl (r : V → Option Int → Option Int → Hp → VK → Prop) (te : TE) (tl th : TO) : TE := fun σ H Q => te σ H fun x H1 => tl σ H1 fun l H2 => th σ H2 fun u H3 => r x l u H3 Q
theorem pe_slice {r : V → Option Int → Option Int → Hp → VK → Prop} (hr : SlR X r) (he : PE X e te) (hl : PO X lo tl) (hu : PO X hi th) : PE X (.Subscript e (.Slice lo hi none p2) pos) (tSl r te tl th) := by
  intro pins s σ H Q I h
  refine Subscript_ (thn (he pins s σ H _ I h) fun v s1 ⟨x, H1, I1, r1, q1⟩ => ?_)
  refine wpAny_Slice (thn (hl pins s1 σ H1 _ I1 q1) fun vl s2 ⟨l, H2, I2, pl, q2⟩ => thn (hu pins s2 σ H2 _ I2 q2) fun vu s3 ⟨u, H3, I3, pu, q3⟩ => ?_)
  rw [evalPart_none]
  refine wpAny_pure ?_
  have I4 : Inv X pins σ H3 { s3 with heap := s3.heap.push { cls := .type "slice", data := .fields #[vl, vu, .none] } } := I3.kept (t' := s3.toks) fun b ob q => Heap.get?_push_of_some _ q
  obtain ⟨T, id, hT, ht, hg⟩ := hr pins { s3 with heap := s3.heap.push { cls := .type "slice", data := .fields #[vl, vu, .none] } } σ H3 x v vl vu l u s3.heap.objs.size Q I4 r1 (Heap.IsSliceOf.new ..) pl pu q3
  show wpAny (model X.prog X.w) X.A (subscriptTail e (.Slice lo hi none p2) v (.ref s3.heap.objs.size)) (EP X pins σ Q) X.xe { s3 with heap := s3.heap.push { cls := .type "slice", data := .fields #[vl, vu, .none] } }
  exact tail_any (ops := [.ref s3.heap.objs.size, v]) ht hT hg (by with_unfolding_all rfl)
def cutV (xs : List V) (lo hi : Option Int) : List V := (xs.drop (HT.sIx xs.length 0 lo)).take (HT.sIx xs.length xs.length hi - HT.sIx xs.length 0 lo)
theorem cutV_length (xs : List V) (lo hi : Option Int) : (cutV xs lo hi).length ≤ xs.length := by
  unfold cutV
  rw [List.length_take, List.length_drop]
  omega
end
end L2
namespace L2
open PySem PySem.Spec PyProof.Rows
def ixN (n : Nat) (i : Int) : Option Nat := if 0 ≤ i then (if i < n then some i.toNat else none) else if -(n : Int) ≤ i then some (i + n).toNat else none
def atI {α : Type} (xs : List α) (i : Int) : Option α := (ixN xs.length i).bind fun j => xs[j]?
theorem ixN_seq {n : Nat} {i : Int} {j : Nat} (h : ixN n i = some j) : seqIndex? i n = some j ∧ j < n ∧ -(n : Int) ≤ i ∧ i < n := by
  unfold ixN at h
  by_cases h0 : 0 ≤ i
  · rw [if_pos h0] at h
    by_cases h1 : i < n
    · rw [if_pos h1] at h
      have e : i.toNat = j := Option.some.inj h
      exact ⟨by rw [seqIndex_of h0 h1, e], by omega, by omega, h1⟩
    · rw [if_neg h1] at h; cases h
  · rw [if_neg h0] at h
    by_cases h1 : -(n : Int) ≤ i
    · rw [if_pos h1] at h
      have e : (i + n).toNat = j := Option.some.inj h
      exact ⟨by rw [seqIndex_neg (by omega) h1, e], by omega, h1, by omega⟩
    · rw [if_neg h1] at h; cases h
theorem atI_get {α : Type} {xs : List α} {i : Int} {v : α} (h : atI xs i = some v) : ∃ j, seqIndex? i xs.length = some j ∧ xs[j]? = some v ∧ j < xs.length ∧ -(xs.length : Int) ≤ i ∧ i < xs.length := by
  unfold atI at h
  cases e : ixN xs.length i with
  | none => rw [e] at h; cases h
  | some j =>
    rw [e] at h
    obtain ⟨h1, h2, h3, h4⟩ := ixN_seq e
    exact ⟨j, h1, h, h2, h3, h4⟩
theorem atI_nat {α : Type} {xs : List α} {j : Nat} {v : α} (h : xs[j]? = some v) : atI xs (j : Int) = some v := by
  have hj : j < xs.length := (List.getElem?_eq_some_iff.mp h).1
  have e : ixN xs.length (j : Int) = some j := by
    unfold ixN
    rw [if_pos (by omega), if_pos (by omega)]; simp
  unfold atI; rw [e]; exact h
def PlainIx (b : Expr) : Prop := ∀ o i, subscripted b false o i = operate [o, i] (getItem o i)
def IxR (X : Cx) (r : R2) : Prop :=
  ∀ (value slice : Expr) (pins : List (Addr × Obj)) (s : Shared) (σ : St) (H : Hp) (x y : V) (v u : Value) (Q : VK), Inv X pins σ H s → RelV x v → RelV y u → r x y H Q →
    subscripted slice false v u = operate [v, u] (getItem v u) → wpAny (model X.prog X.w) X.A (subscriptTail value slice v u) (EP X pins σ Q) X.xe s
def MtR (X : Cx) (id : String) (r : V → List V → Hp → VK → Prop) : Prop :=
  ∀ (pins : List (Addr × Obj)) (s : Shared) (σ : St) (H : Hp) (x : V) (xs : List V) (v : Value) (us : List Value) (Q : VK), Inv X pins σ H s → RelV x v → Vals xs us → r x xs H Q →
    wpAny (model X.prog X.w) X.A (call (.builtin id) (v :: us)) (EP X pins σ Q) X.xe s
section
variable {X : Cx} {a b : Expr} {ta tb : TE} {pos : Pos}
theorem IxR.or {r r' : R2} (h : IxR X r) (h' : IxR X r') : IxR X (fun x y H Q => r x y H Q ∨ r' x y H Q) := by
  intro value slice pins s σ H x y v u Q I rx ry q hs
  rcases q with q | q
  · exact h value slice pins s σ H x y v u Q I rx ry q hs
  · exact h' value slice pins s σ H x y v u Q I rx ry q hs
theorem MtR.or {id : String} {r r' : V → List V → Hp → VK → Prop} (h : MtR X id r) (h' : MtR X id r') : MtR X id (fun x xs H Q => r x xs H Q ∨ r' x xs H Q) := by
  intro pins s σ H x xs v us Q I rx rs q
  rcases q with q | q
  · exact h pins s σ H x xs v us Q I rx rs q
  · exact h' pins s σ H x xs v us Q I rx rs q
theorem pe_ix {r : R2} (hr : IxR X r) (ha : PE X a ta) (hb : PE X b tb) (hs : PlainIx b) : PE X (.Subscript a b pos) (tOp r ta tb) := by
  intro pins s σ H Q I h
  exact Subscript_ (binT ha hb I h fun v u s2 x y H2 I2 rx ry q => hr a b pins s2 σ H2 x y v u Q I2 rx ry q (hs _ _))
def rIxL (K : PySem.W.Frag) : R2 := fun x y H Q => ∃ p xs i v, x = .ref p ∧ y = .int i ∧ SqL K H p xs ∧ atI xs i = some v ∧ Q v H
def rIxT (K : PySem.W.Frag) : R2 := fun x y H Q => ∃ p xs i v, x = .ref p ∧ y = .int i ∧ SqT K H p xs ∧ atI xs i = some v ∧ Q v H
def rIxS : R2 := fun x y H Q => ∃ z i c, x = .str z ∧ y = .int i ∧ z.length ≤ sizeLine ∧ atI z.cps.toList i = some c ∧ Q (.str ⟨#[c]⟩) H
theorem ix_list : IxR X (rIxL X.K) := by
  intro value slice pins s σ H x y v u Q I rx ry h hs
  obtain ⟨p, xs, i, z, rfl, rfl, hq, he, q⟩ := h
  cases rx
  obtain ⟨t, rfl⟩ := ry
  obtain ⟨its, r, pl, hz⟩ := I.list hq
  obtain ⟨j, h1, h2, h3, h4, h5⟩ := atI_get he
  obtain ⟨w, ew, rw'⟩ := r.get h2
  have hl := r.length
  have hn := line63
  have fin : EP X pins σ Q w s := ⟨z, H, I, rw', q⟩
  by_cases h0 : 0 ≤ i
  · have hj : i.toNat = j := by
      rw [seqIndex_of h0 h5] at h1
      exact Option.some.inj h1
    exact item_listR pl.isList h0 (by omega) (by rw [hj]; simpa using ew) fin hs
  · have hj : (i + (its.toArray.size : Int)).toNat = j := by
      rw [seqIndex_neg (by omega) h4] at h1
      rw [List.size_toArray, ← hl]
      exact Option.some.inj h1
    exact subscriptTail_builtinR (x := w) pl.isList.typeIs slot_list_getitem.lookup
      (wpAny_getItem_list_neg (Q := fun r s' => r = w ∧ EP X pins σ Q r s') pl.isList (by omega) (by rw [List.size_toArray] <;> omega) (by omega) (by rw [hj]; simpa using ew) ⟨rfl, fin⟩) hs
theorem ix_tup : IxR X (rIxT X.K) := by
  intro value slice pins s σ H x y v u Q I rx ry h hs
  obtain ⟨p, xs, i, z, rfl, rfl, hq, he, q⟩ := h
  cases rx
  obtain ⟨t, rfl⟩ := ry
  obtain ⟨its, r, pl, hz⟩ := I.tuple hq
  obtain ⟨j, h1, h2, h3, h4, h5⟩ := atI_get he
  obtain ⟨w, ew, rw'⟩ := r.get h2
  have hl := r.length
  have hn := line63
  have fin : EP X pins σ Q w s := ⟨z, H, I, rw', q⟩
  exact subscriptTail_builtinR (x := w) pl.typeIs slot_tuple_getitem.lookup
    (getItem_tuple (j := j) (Q := fun r s' => r = w ∧ EP X pins σ Q r s') pl (by omega) (by omega) (by rw [List.size_toArray, ← hl]; exact h1) (by simpa using ew) ⟨rfl, fin⟩) hs
theorem ix_str : IxR X rIxS := by
  intro value slice pins s σ H x y v u Q I rx ry h hs
  obtain ⟨z, i, c, rfl, rfl, hz, he, q⟩ := h
  obtain ⟨t, rfl⟩ := rx
  obtain ⟨t', rfl⟩ := ry
  obtain ⟨j, h1, h2, h3, h4, h5⟩ := atI_get he
  have hl : z.cps.toList.length = z.length := by simp [Str.length]
  rw [hl] at h1 h4 h5
  have hn := line63
  exact tail_any (typeIs_str s z t) slot_str_getitem.lookup (getItem_str (c := c) (by
    have e1 : decide (i < -(2 ^ 63 : Int)) = false := decide_eq_false (by omega)
    have e2 : decide (i ≥ 2 ^ 63) = false := decide_eq_false (by omega)
    rw [e1, e2, Bool.or_false]) (by rw [h1]; simpa using h2) ⟨.str ⟨#[c]⟩, H, I.tok _, ⟨_, rfl⟩, q⟩) hs
def rIx (K : PySem.W.Frag) : R2 := fun x y H Q => rIxL K x y H Q ∨ rIxT K x y H Q ∨ rIxS x y H Q
theorem ix_seq : IxR X (rIx X.K) := ix_list.or (ix_tup.or ix_str)
theorem Inv.lst {pins : List (Addr × Obj)} {σ : St} {H : Hp} {s : Shared} {p : Addr} {xs : List V} (I : Inv X pins σ H s) (h : H p = some (.lst xs)) :
    ∃ (its : List Value) (n : Nat), Vals xs its ∧ s.heap.get? p = some { cls := .type "list", data := .seq its.toArray n } ∧ xs.length ≤ sizeLine := by
  obtain ⟨z, its, n, r, e⟩ := I.hok p _ h
  exact ⟨its, n, r, e, z⟩
theorem slice_bounds (lo hi : Option Int) (n : Nat) : (sliceBounds lo hi none n).1 = ((HT.sIx n 0 lo : Nat) : Int) ∧ (sliceBounds lo hi none n).2.1 = ((HT.sIx n n hi : Nat) : Int) ∧ (sliceBounds lo hi none n).2.2 = 1 := by
  refine ⟨?_, ?_, rfl⟩
  · cases lo with
    | none => simp [sliceBounds, HT.sIx]
    | some i =>
      simp only [sliceBounds, HT.sIx, Option.getD_none, show (1 : Int) > 0 by decide, if_true]
      by_cases h : i < 0
      · simp only [h, if_true] <;> omega
      · simp only [h, if_false] <;> omega
  · cases hi with
    | none => simp [sliceBounds, HT.sIx]
    | some i =>
      simp only [sliceBounds, HT.sIx, Option.getD_none, show (1 : Int) > 0 by decide, if_true]
      by_cases h : i < 0
      · simp only [h, if_true] <;> omega
      · simp only [h, if_false] <;> omega
theorem slicePick_cut (its : List Value) (lo hi : Option Int) : slicePick its.toArray lo hi none = ((its.drop (HT.sIx its.length 0 lo)).take (HT.sIx its.length its.length hi - HT.sIx its.length 0 lo)).toArray := by
  obtain ⟨h1, h2, h3⟩ := slice_bounds lo hi its.toArray.size
  unfold slicePick
  rw [h1, h2, h3]
  simp only [sliceRange_one, pick_run, List.size_toArray] <;> rfl
def rSlL (K : PySem.W.Frag) : V → Option Int → Option Int → Hp → VK → Prop := fun x lo hi H Q => ∃ a xs, x = .ref a ∧ SqL K H a xs ∧ ∀ p, H p = none → Q (.ref p) (upd H p (.lst (cutV xs lo hi)))
theorem sl_list : SlR X (rSlL X.K) := by
  intro pins s σ H x v vl vu lo hi sl Q I rx hs pl pu h
  obtain ⟨a, xs, rfl, hx, q⟩ := h
  cases rx
  obtain ⟨its, r, ht, hz⟩ := I.list hx
  have hlen := r.length
  refine ⟨"list", _, slot_list_getitem.lookup, ht.isList.typeIs, ?_⟩
  refine wpAny_getItem_list_slice ht.isList hs pl pu .none (by simp) ?_ (by rw [List.size_toArray] <;> omega)
  rw [slicePick_cut, ← hlen]
  refine ⟨.ref s.heap.objs.size, _, I.laid (t' := s.toks) (o := .lst (cutV xs lo hi)) (fun b ob q => Heap.get?_push_of_some _ q) (Nat.le_refl _) ?_, rfl, q _ (I.hok.fresh (Nat.le_refl _))⟩
  exact ⟨Nat.le_trans (cutV_length xs lo hi) hz, _, 0, (r.drop (HT.sIx xs.length 0 lo)).take (HT.sIx xs.length xs.length hi - HT.sIx xs.length 0 lo), Heap.get?_push_size _ rfl⟩
def flatV : V → Bool
  | .non => true
  | .bl _ => true
  | .int _ => true
  | .str _ => true
  | _ => false
def eqV : V → V → Bool
  | .non, .non => true
  | .bl a, .bl b => a == b
  | .bl a, .int b => (if a then 1 else 0) == b
  | .int a, .bl b => a == (if b then 1 else 0)
  | .int a, .int b => a == b
  | .str a, .str b => a == b
  | _, _ => false
theorem eqAt_V {A : Around} {s : Shared} {y x : V} {u v : Value} (ry : RelV y u) (rx : RelV x v) (fy : flatV y = true) (fx : flatV x = true) : SeqAt.EqAt A s u v (eqV y x) := by
  cases y with
  | non =>
    cases ry
    cases x with
    | non => cases rx; exact SeqAt.EqAt.same _
    | bl b => cases rx; exact SeqAt.EqAt.none_bool b
    | int b => obtain ⟨t, rfl⟩ := rx; exact SeqAt.EqAt.none_int b t
    | str b => obtain ⟨t, rfl⟩ := rx; exact SeqAt.EqAt.none_str b t
    | _ => exact absurd (show false = true from fx) Bool.false_ne_true
  | bl a =>
    cases ry
    cases x with
    | non => cases rx; exact SeqAt.EqAt.bool_none a
    | bl b => cases rx; exact SeqAt.EqAt.bool_bool a b
    | int b => obtain ⟨t, rfl⟩ := rx; exact SeqAt.EqAt.bool_int a b t
    | str b => obtain ⟨t, rfl⟩ := rx; exact SeqAt.EqAt.bool_str a b t
    | _ => exact absurd (show false = true from fx) Bool.false_ne_true
  | int a =>
    obtain ⟨t', rfl⟩ := ry
    cases x with
    | non => cases rx; exact SeqAt.EqAt.int_none a t'
    | bl b => cases rx; exact SeqAt.EqAt.int_bool a t' b
    | int b => obtain ⟨t, rfl⟩ := rx; exact SeqAt.EqAt.int_int a t' b t
    | str b => obtain ⟨t, rfl⟩ := rx; exact SeqAt.EqAt.int_str a t' b t
    | _ => exact absurd (show false = true from fx) Bool.false_ne_true
  | str a =>
    obtain ⟨t', rfl⟩ := ry
    cases x with
    | non => cases rx; exact SeqAt.EqAt.str_none a t'
    | bl b => cases rx; exact SeqAt.EqAt.str_bool a t' b
    | int b => obtain ⟨t, rfl⟩ := rx; exact SeqAt.EqAt.str_int a t' b t
    | str b => obtain ⟨t, rfl⟩ := rx; exact SeqAt.EqAt.str_str a t' b t
    | _ => exact absurd (show false = true from fx) Bool.false_ne_true
  | _ => exact absurd (show false = true from fy) Bool.false_ne_true
theorem call_len_seq : CallR X (.builtin "len") (fun xs H Q => ∃ p ys, xs = [.ref p] ∧ (SqL X.K H p ys ∨ SqT X.K H p ys) ∧ Q (.int ys.length) H) := by
  intro pins s σ H xs us Q I r h
  obtain ⟨p, ys, rfl, hq, q⟩ := h
  obtain ⟨u, rfl, rx⟩ := vals1 r
  cases rx
  have hn := line63
  rcases hq with hq | hq
  · obtain ⟨its, r', pl, hz⟩ := I.list hq
    have hlen := r'.length
    exact Calls.call_len_list pl.isList (by simp only [List.size_toArray] <;> omega) ⟨.int ys.length, H, I.tok _, ⟨s.toks + 1, by rw [List.size_toArray, hlen]⟩, q⟩
  · obtain ⟨its, r', pl, hz⟩ := I.tuple hq
    have hlen := r'.length
    exact len_tuple pl (by simp only [List.size_toArray] <;> omega) ⟨.int ys.length, H, I.tok _, ⟨s.toks + 1, by rw [List.size_toArray, hlen]⟩, q⟩
theorem call_len_str : CallR X (.builtin "len") (fun xs H Q => ∃ z, xs = [.str z] ∧ z.length ≤ sizeLine ∧ Q (.int z.length) H) := by
  intro pins s σ H xs us Q I r h
  obtain ⟨z, rfl, hz, q⟩ := h
  obtain ⟨u, rfl, t, rfl⟩ := vals1 r
  have hn := line63
  exact len_str (by omega) ⟨.int z.length, H, I.tok _, ⟨_, rfl⟩, q⟩
theorem CallR.or {f : Value} {r r' : List V → Hp → VK → Prop} (h : CallR X f r) (h' : CallR X f r') : CallR X f (fun xs H Q => r xs H Q ∨ r' xs H Q) := by
  intro pins s σ H xs us Q I rs q
  rcases q with q | q
  · exact h pins s σ H xs us Q I rs q
  · exact h' pins s σ H xs us Q I rs q
theorem call_list_of : CallR X (.type "list") (fun xs H Q => ∃ p ys, xs = [.ref p] ∧ (SqL X.K H p ys ∨ SqT X.K H p ys) ∧ ∀ l, H l = none → Q (.ref l) (upd H l (.lst ys))) := by
  intro pins s σ H xs us Q I r h
  obtain ⟨p, ys, rfl, hq, q⟩ := h
  obtain ⟨u, rfl, rx⟩ := vals1 r
  cases rx
  have fin : ∀ (its : List Value), Vals ys its → ys.length ≤ sizeLine → ∀ (h' : Heap) (c' : Nat), (∀ b o', s.heap.get? b = some o' → h'.get? b = some o') →
      h'.get? s.heap.objs.size = some { cls := .type "list", dict := none, data := .seq its.toArray c', slots := #[] } → EP X pins σ Q (.ref s.heap.objs.size) { s with heap := h' } := fun its r' hz h' c' kp e =>
    ⟨.ref s.heap.objs.size, _, I.laid (t' := s.toks) kp (Nat.le_refl _) (show ObjOk X.prog X.w _ h' _ (.lst ys) from ⟨hz, its, c', r', e⟩), rfl, q _ (I.hok.fresh (Nat.le_refl _))⟩
  rcases hq with hq | hq
  · obtain ⟨its, r', pl, hz⟩ := I.list hq
    have hlen := r'.length
    obtain ⟨o, ho, hc, n, hd⟩ := pl.isList
    exact call_list_seq p (.inl rfl) ho hc hd (fun h' c' kp e => fin its r' hz h' c' kp e) (by simp only [List.size_toArray] <;> omega)
  · obtain ⟨its, r', pl, hz⟩ := I.tuple hq
    have hlen := r'.length
    obtain ⟨o, ho, hc, n, hd⟩ := pl
    exact call_list_seq p (.inr rfl) ho hc hd (fun h' c' kp e => fin its r' hz h' c' kp e) (by simp only [List.size_toArray] <;> omega)
def tyV (K : PySem.W.Frag) (T : String) (x : V) (H : Hp) : Prop := match x with
  | .str _ => T = "str"
  | .int _ => T = "int"
  | .ref p => (T = "list" ∧ ∃ xs, SqL K H p xs) ∨ (T = "tuple" ∧ ∃ o, K.lookup p = some o ∧ o.cls = .type "tuple" ∧ o.dict = none) ∨
      (T = "dict" ∧ ((∃ kvs, H p = some (.dK kvs)) ∨ ∃ kvs, H p = some (.dT kvs))) ∨ (T = "set" ∧ ∃ S n, H p = some (.set S n))
  | _ => False
theorem tyV_is {pins : List (Addr × Obj)} {σ : St} {H : Hp} {s : Shared} {T : String} {x : V} {v : Value} (I : Inv X pins σ H s) (r : RelV x v) (ty : tyV X.K T x H) :
    s.TypeIs v T ∧ ∀ a, v = .ref a → ∃ ob, s.heap.get? a = some ob ∧ ob.dict = none := by
  cases x with
  | str z =>
    obtain ⟨t, rfl⟩ := r
    cases (show T = "str" from ty)
    exact ⟨typeIs_str s z t, fun _ e => nomatch e⟩
  | int i =>
    obtain ⟨t, rfl⟩ := r
    cases (show T = "int" from ty)
    exact ⟨typeIs_int s i t, fun _ e => nomatch e⟩
  | ref p =>
    cases r
    rcases ty with ⟨rfl, xs, hq⟩ | ⟨rfl, o, hk, hc, hd⟩ | ⟨rfl, hk⟩ | ⟨rfl, S, n, hk⟩
    · obtain ⟨its, _, pl, _⟩ := I.list hq
      refine ⟨pl.isList.typeIs, fun a e => ?_⟩
      cases e
      obtain ⟨o, n, e, c, hd, _⟩ := pl
      exact ⟨o, e, hd⟩
    · refine ⟨⟨o, I.kIn p o hk, hc⟩, fun a e => ?_⟩
      cases e
      exact ⟨o, I.kIn _ o hk, hd⟩
    · have z : ∃ o, s.heap.get? p = some o ∧ o.ExactDict := by
        rcases hk with ⟨kvs, hk⟩ | ⟨kvs, hk⟩
        · obtain ⟨_, _, _, _, o, _, _, e, ex, _⟩ := I.hok p _ hk
          exact ⟨o, e, ex⟩
        · obtain ⟨_, _, _, _, o, _, _, e, ex, _⟩ := I.hok p _ hk
          exact ⟨o, e, ex⟩
      obtain ⟨o, e, ex⟩ := z
      refine ⟨⟨o, e, ex.1⟩, fun a e2 => ?_⟩
      cases e2
      exact ⟨o, e, ex.2.1⟩
    · obtain ⟨o, _, _, _, e, ex, _⟩ := I.hok p _ hk
      refine ⟨⟨o, e, ex.1⟩, fun a e2 => ?_⟩
      cases e2
      exact ⟨o, e, ex.2.1⟩
  | _ => exact False.elim ty
def tBM0 (K : PySem.W.Frag) (T : String) (r : V → List V → Hp → VK → Prop) (to : TE) : TE := fun σ H Q => to σ H fun x H1 => tyV K T x H1 ∧ r x [] H1 Q
def tBM (K : PySem.W.Frag) (T : String) (r : V → List V → Hp → VK → Prop) (to : TE) (t : TA) : TE := fun σ H Q => to σ H fun x H1 => tyV K T x H1 ∧ t σ H1 fun xs H2 => r x xs H2 Q
variable {o e : Expr} {es : List Expr} {to : TE} {t : TA} {name : Str} {apos cpos : Pos} {T id : String} {r : V → List V → Hp → VK → Prop}
theorem pe_bm0 (pa : PlainAttrs T) (slot : Slot T name id) (hty : typeOf (.builtin id) = pure (.type "method_descriptor")) (hm : MtR X id r) (ho : PE X o to)
    (hbase : attributeBase o name X.env (eval o X.env) = eval o X.env := by rfl) (hline : (apos.endLine == cpos.line) = true := by rfl) : PE X (.Call (.Attribute o name apos) [] [] cpos) (tBM0 X.K T r to) := by
  intro pins s σ H Q I h
  refine wpAny_Call_method0_late hbase hline (thn (ho pins s σ H _ I h) fun v s1 ⟨x, H1, I1, r1, ty, q1⟩ => ?_)
  obtain ⟨h1, h2⟩ := tyV_is I1 r1 ty
  exact ⟨T, id, pa, slot, hty, h1, h2, Calls.callWith_builtin rfl (PySem.evalArgs_none (hm pins s1 σ H1 x [] v [] Q I1 r1 .nil q1))⟩
theorem pe_bm (pa : PlainAttrs T) (slot : Slot T name id) (hty : typeOf (.builtin id) = pure (.type "method_descriptor")) (hm : MtR X id r) (ho : PE X o to) (ha : PA X (e :: es) t)
    (hbase : attributeBase o name X.env (eval o X.env) = eval o X.env := by rfl)
    (hfew : ((backTo cpos (starEach (e :: es) X.env)).all (fun x => !x.1) && (backToKw cpos (keywordEach [] X.env)).all (fun x => x.1.isSome)
      && decide ((e :: es).length + ([] : List Keyword).length + (if ([] : List Keyword).isEmpty then 0 else 1) < 30)) = true := by rfl)
    (hline : (apos.endLine == cpos.line) = true := by rfl) (hs : starEach (e :: es) X.env = (false, eval e X.env) :: starEach es X.env := by rfl) (hplain : (backTo cpos (starEach es X.env)).any (·.1) = false := by rfl) :
    PE X (.Call (.Attribute o name apos) (e :: es) [] cpos) (tBM X.K T r to t) := by
  intro pins s σ H Q I h
  refine wpAny_Call_method_late hbase hfew hline rfl (thn (ho pins s σ H _ I h) fun v s1 ⟨x, H1, I1, r1, ty, q1⟩ => ?_)
  obtain ⟨h1, h2⟩ := tyV_is I1 r1 ty
  refine ⟨T, id, pa, slot, hty, h1, h2, ?_⟩
  have hA := ha cpos pins s1 σ H1 _ I1 q1
  rw [hs] at hA ⊢
  refine Calls.callWith_builtin (by show (false || (backTo cpos (starEach es X.env)).any (·.1)) = false; rw [hplain] <;> rfl) (Calls.evalArgs_plain ?_)
  exact thn hA fun us s2 ⟨vs, H2, I2, r2, q2⟩ => hm pins s2 σ H2 x vs v us Q I2 r1 r2 q2
end
end L2
namespace L2
open PySem PySem.Spec PyProof.Rows
def MtM (X : Cx) (id : String) (r : V → List V → Hp → VK → Prop) : Prop :=
  ∀ (pins : List (Addr × Obj)) (s : Shared) (σ : St) (H : Hp) (x : V) (xs : List V) (v : Value) (us : List Value) (Q : VK), Inv X pins σ H s → RelV x v → Vals xs us → r x xs H Q →
    wpAny (model X.prog X.w) X.A (call (.builtin id) (v :: us)) (EP X pins σ Q) X.xe s
theorem Vals.one : ∀ {x : V} {us : List Value}, Vals [x] us → ∃ u, us = [u] ∧ RelV x u
  | _, _, .cons r .nil => ⟨_, rfl, r⟩
theorem Vals.two : ∀ {x y : V} {us : List Value}, Vals [x, y] us → ∃ u v, us = [u, v] ∧ RelV x u ∧ RelV y v
  | _, _, _, .cons r (.cons q .nil) => ⟨_, _, rfl, r, q⟩
theorem Vals.zero : ∀ {us : List Value}, Vals [] us → us = []
  | _, .nil => rfl
theorem Vals.dropLast {xs : List V} {us : List Value} (h : Vals xs us) : Vals xs.dropLast us.dropLast := by
  induction h with
  | nil => exact .nil
  | cons r t ih =>
    cases t with
    | nil => exact .nil
    | cons q t' => exact .cons r ih
theorem Vals.eraseIdx : ∀ {xs : List V} {us : List Value} (i : Nat), Vals xs us → Vals (xs.eraseIdx i) (us.eraseIdx i)
  | _, _, _, .nil => .nil
  | _, _, 0, .cons _ t => t
  | _, _, i + 1, .cons r t => .cons r (Vals.eraseIdx i t)
theorem Vals.reverse {xs : List V} {us : List Value} (h : Vals xs us) : Vals xs.reverse us.reverse := by
  induction h with
  | nil => exact .nil
  | cons r t ih => rw [List.reverse_cons, List.reverse_cons]; exact Vals.append ih (.cons r .nil)
theorem Vals.rep {xs : List V} {us : List Value} (h : Vals xs us) : ∀ k : Nat, Vals (List.replicate k xs).flatten (List.replicate k us).flatten
  | 0 => .nil
  | k + 1 => by
    rw [List.replicate_succ, List.replicate_succ, List.flatten_cons, List.flatten_cons]
    exact Vals.append h (Vals.rep h k)
theorem erase_last {α : Type} (l : List α) : l.eraseIdx (l.length - 1) = l.dropLast := by
  induction l with
  | nil => rfl
  | cons a r ih =>
    cases r with
    | nil => rfl
    | cons b r =>
      have e : (a :: b :: r).length - 1 = ((b :: r).length - 1) + 1 := by
        have h1 : (a :: b :: r).length = r.length + 2 := rfl
        have h2 : (b :: r).length = r.length + 1 := rfl
        omega
      rw [e, List.eraseIdx_cons_succ, ih]
      all_goals rfl
theorem foldl_rep (its : List Value) : ∀ (k : Nat) (acc : List Value),
    List.foldl (fun x1 x2 => x1 ++ x2) acc.toArray (List.replicate k its.toArray) = (acc ++ (List.replicate k its).flatten).toArray
  | 0, acc => by simp
  | k + 1, acc => by
    have e : acc.toArray ++ its.toArray = (acc ++ its).toArray := by simp
    have e2 : (acc ++ its) ++ (List.replicate k its).flatten = acc ++ (List.replicate (k + 1) its).flatten := by
      rw [List.replicate_succ, List.flatten_cons, List.append_assoc]
    rw [← e2, ← foldl_rep its k (acc ++ its), ← e, List.replicate_succ, List.foldl_cons]
section
variable {X : Cx} {pins : List (Addr × Obj)} {σ : St} {H : Hp} {s : Shared} {l b : Addr} {xs ys zs : List V}
theorem Inv.lset {its its' : List Value} {n : Nat} {f : Array Value → Array Value} {t' : Nat} (I : Inv X pins σ H s) (hH : H l = some (.lst xs))
    (e : s.heap.get? l = some { cls := .type "list", data := .seq its.toArray n }) (hf : f its.toArray = its'.toArray) (hv : Vals ys its') (hz : ys.length ≤ sizeLine) :
    Inv X pins σ (upd H l (.lst ys)) { s with heap := s.heap.update l (Obj.mapSeq f), toks := t' } := by
  have q := PySem.IsL.update e f
  rw [hf] at q
  refine I.write (x := l) (e := l) (by rw [hH]; exact trivial) (.inl rfl) (fun b' u hb hu => (Heap.get?_update_other s.heap (Obj.mapSeq f) (Ne.symm hb)).trans hu) ⟨_, q⟩ ?_
  exact ⟨hz, its', _, hv, q⟩
theorem Inv.lnew {its : List Value} {t' : Nat} (I : Inv X pins σ H s) (hv : Vals ys its) (hz : ys.length ≤ sizeLine) :
    Inv X pins σ (upd H s.heap.objs.size (.lst ys)) { s with heap := s.heap.push { cls := .type "list", data := .seq its.toArray }, toks := t' } :=
  I.laid (fun _ _ q => Heap.get?_push_of_some _ q) (Nat.le_refl _) ⟨hz, its, 0, hv, Heap.get?_push_size _ rfl⟩
theorem Inv.fresh (I : Inv X pins σ H s) : H s.heap.objs.size = none := I.hok.fresh (Nat.le_refl _)
theorem Inv.lstM (I : Inv X pins σ H s) (hH : H l = some (.lst xs)) : xs.length ≤ sizeLine ∧ ∃ (its : List Value) (n : Nat), Vals xs its ∧ xs.length = its.length ∧ s.heap.get? l = some { cls := .type "list", data := .seq its.toArray n } := by
  obtain ⟨z, its, n, r, e⟩ := I.hok l _ hH
  exact ⟨z, its, n, r, r.length, e⟩
theorem notLongL {n : Nat} (h : n ≤ sizeLine) : Builtin.List.listTooLong n = false := by
  unfold Builtin.List.listTooLong
  exact decide_eq_false (by omega)
end
section
variable {X : Cx}
def rAppend : V → List V → Hp → VK → Prop := fun x vs H Q => ∃ l xs y, x = .ref l ∧ vs = [y] ∧ H l = some (.lst xs) ∧ xs.length < sizeLine ∧ Q .non (upd H l (.lst (xs ++ [y])))
theorem mt_append : MtM X "list.append" rAppend := by
  intro pins s σ H x vs v us Q I rx rv h
  obtain ⟨l, xs, y, rfl, rfl, hH, hz, q⟩ := h
  cases rx
  obtain ⟨u, rfl, ru⟩ := rv.one
  obtain ⟨z, its, n, r, hl, e⟩ := I.lstM hH
  refine call_meets F.slot_list_append ⟨_, e, rfl⟩ F.entry_list_append (F.args_list_append_2 _ _) (PySem.list_append l its.toArray n u (by rw [List.size_toArray]; omega)) ⟨e, ?_⟩
  refine ⟨.non, _, I.lset (its' := its ++ [u]) hH e (by simp) (r.append (.cons ru .nil)) ?_, rfl, q⟩
  rw [List.length_append, List.length_singleton]
  omega
def rExtend : V → List V → Hp → VK → Prop := fun x vs H Q => ∃ l b xs zs, x = .ref l ∧ vs = [.ref b] ∧ H l = some (.lst xs) ∧ H b = some (.lst zs) ∧ xs.length + zs.length ≤ sizeLine ∧ Q .non (upd H l (.lst (xs ++ zs)))
theorem mt_extend : MtM X "list.extend" rExtend := by
  intro pins s σ H x vs v us Q I rx rv h
  obtain ⟨l, b, xs, zs, rfl, rfl, hH, hB, hz, q⟩ := h
  cases rx
  obtain ⟨u, rfl, ru⟩ := rv.one
  cases ru
  obtain ⟨z, its, n, r, hl, e⟩ := I.lstM hH
  obtain ⟨z2, its2, n2, r2, hl2, e2⟩ := I.lstM hB
  have hsz : its.toArray.size + its2.toArray.size ≤ sizeLine := by rw [List.size_toArray, List.size_toArray]; omega
  have hlong : ¬ (!its.toArray.isEmpty && Builtin.List.listTooLong (its.toArray.size + its2.toArray.size)) = true := by
    rw [notLongL hsz, Bool.and_false]
    exact Bool.false_ne_true
  refine call_meets F.slot_list_extend ⟨_, e, rfl⟩ F.entry_list_extend (F.args_list_extend_2 _ _)
    (AutoSeq1.list_extend_list_list_0 l its.toArray n b its2.toArray n2 hlong (by rw [List.size_toArray]; omega) (by omega)) ⟨e, e2, ?_⟩
  refine ⟨.non, _, I.lset (its' := its ++ its2) hH e (by simp) (r.append r2) ?_, rfl, q⟩
  rw [List.length_append]
  omega
def rPop : V → List V → Hp → VK → Prop := fun x vs H Q => ∃ l xs y, x = .ref l ∧ vs = [] ∧ H l = some (.lst xs) ∧ xs[xs.length - 1]? = some y ∧ Q y (upd H l (.lst xs.dropLast))
theorem mt_pop : MtM X "list.pop" rPop := by
  intro pins s σ H x vs v us Q I rx rv h
  obtain ⟨l, xs, y, rfl, rfl, hH, hy, q⟩ := h
  cases rx
  have hus := rv.zero
  subst hus
  obtain ⟨z, its, n, r, hl, e⟩ := I.lstM hH
  obtain ⟨u, hu, ru⟩ := r.get hy
  have hy' : its.toArray[its.toArray.size - 1]? = some u := by
    show its.toArray[its.length - 1]? = some u
    rw [← Array.getElem?_toList, ← hl]
    exact hu
  refine call_meets F.slot_list_pop ⟨_, e, rfl⟩ F.entry_list_pop (F.args_list_pop_1 _) (MeetsSeq.list_pop_last l its.toArray n u hy' (by rw [List.size_toArray]; omega)) ⟨e, ?_⟩
  refine ⟨y, _, I.lset (its' := its.dropLast) hH e ?_ r.dropLast ?_, ru, q⟩
  · show its.toArray.eraseIdxIfInBounds (its.toArray.size - 1) = its.dropLast.toArray
    rw [List.size_toArray, List.eraseIdxIfInBounds_toArray, erase_last]
  · rw [List.length_dropLast]
    omega
def rCat : R2 := fun x y H Q => ∃ l b xs zs, x = .ref l ∧ y = .ref b ∧ H l = some (.lst xs) ∧ H b = some (.lst zs) ∧ xs.length + zs.length ≤ sizeLine ∧ ∀ p, H p = none → Q (.ref p) (upd H p (.lst (xs ++ zs)))
theorem op_cat : OpR X (binaryOp .Add) rCat := by
  intro pins s σ H x y v u Q I rx ry h
  obtain ⟨l, b, xs, zs, rfl, rfl, hH, hB, hz, q⟩ := h
  cases rx
  cases ry
  obtain ⟨z, its, n, r, hl, e⟩ := I.lstM hH
  obtain ⟨z2, its2, n2, r2, hl2, e2⟩ := I.lstM hB
  refine PySem.P.add_list e e2 ?_ (by rw [List.size_toArray, List.size_toArray]; omega)
  have ea : its.toArray ++ its2.toArray = (its ++ its2).toArray := by simp
  rw [ea]
  exact ⟨.ref _, _, I.lnew (t' := s.toks) (r.append r2) (by rw [List.length_append]; omega), rfl, q _ I.fresh⟩
def rRep : R2 := fun x y H Q => ∃ l k xs, x = .ref l ∧ y = .int k ∧ H l = some (.lst xs) ∧ -(2 ^ 63) ≤ k ∧ k < 2 ^ 63 ∧ xs.length * k.toNat ≤ sizeLine ∧
  ∀ p, H p = none → Q (.ref p) (upd H p (.lst (List.replicate k.toNat xs).flatten))
theorem len_rep {α : Type} (xs : List α) (k : Nat) : (List.replicate k xs).flatten.length = k * xs.length := by
  induction k with
  | zero => simp
  | succ k ih => rw [List.replicate_succ, List.flatten_cons, List.length_append, ih, Nat.succ_mul, Nat.add_comm]
theorem op_rep : OpR X (binaryOp .Mult) rRep := by
  intro pins s σ H x y v u Q I rx ry h
  obtain ⟨l, k, xs, rfl, rfl, hH, h1, h2, hz, q⟩ := h
  cases rx
  obtain ⟨t, rfl⟩ := ry
  obtain ⟨z, its, n, r, hl, e⟩ := I.lstM hH
  have hlen : its.toArray.size * k.toNat ≤ sizeLine := by rw [List.size_toArray, ← hl]; exact hz
  have hcap : ¬ its.toArray.size * k.toNat > (2 ^ 63 - 1) / 8 := by
    have : (sizeLine : Nat) ≤ (2 ^ 63 - 1) / 8 := by decide
    omega
  have hfit : ¬ (!Builtin.List.listFitsIndex k) = true := by
    rw [fitsIndex_both h1 h2]
    exact Bool.false_ne_true
  have hlong : ¬ Builtin.List.listTooLong (its.toArray.size * k.toNat) = true := by
    rw [notLongL hlen]
    exact Bool.false_ne_true
  have hnew : List.foldl (fun x1 x2 => x1 ++ x2) #[] (List.replicate (if its.toArray.isEmpty = true then 0 else k.toNat) its.toArray) = (List.replicate k.toNat its).flatten.toArray := by
    have f0 : ∀ m : Nat, List.foldl (fun x1 x2 => x1 ++ x2) #[] (List.replicate m its.toArray) = (List.replicate m its).flatten.toArray := fun m => by
      have := foldl_rep its m []
      rw [List.nil_append] at this
      exact this
    rw [f0]
    cases its with
    | nil => simp
    | cons a r' => rw [if_neg (by simp)]
  refine wpAny_binaryOp_repeat_ref (T := "list") (U := "int") (by decide) ⟨_, e, rfl⟩ (fun s' => typeIs_int s' k t) noFill_list_mul F.fills_int_mul F.slot_int_rmul repeat_list F.slot_int_index.lookup
    (call_meets F.slot_int_rmul (typeIs_int s k t) F.entry_int_rmul (F.args_int_rmul_2 _ _) (int___rmul___int_list k t l its.toArray n)
      ⟨e, rfl, ⟨_, e, rfl⟩, call_meets F.slot_list_mul ⟨_, e, rfl⟩ F.entry_list_mul (F.args_list_mul_2 _ _) (AutoListH.list___mul___list_int_3 l its.toArray n k t hfit hcap hlong) ⟨e, ?_⟩⟩)
  rw [hnew]
  exact ⟨.ref _, _, I.lnew (t' := s.toks) (r.rep k.toNat) (by rw [len_rep, Nat.mul_comm]; exact hz), rfl, q _ I.fresh⟩
end
end L2
namespace Att
open PySem PySem.W PySem.Calls PyProof.Rows
theorem ints_of_wellAll {P : Params} {h : Heap} : ∀ (ns : List Int) (vs : List Value), WellAll P h vs (ns.map WData.int) → IntsAre vs ns := by
  intro ns
  induction ns with
  | nil =>
    intro vs w
    rw [List.map_nil] at w
    cases w
    exact .nil
  | cons n ns ih =>
    intro vs w
    rw [List.map_cons] at w
    cases w with
    | cons a b =>
      cases a
      exact .cons _ _ (ih _ b)
theorem script_of {l : OpenLaw} {n : Nat} (hn : l.most = some n) {P : Params} {h : Heap} {args : List WData} {vals : List Value}
    (hpre : l.row.toRowW.claim.pre args = true) (hwl : WellAll P h vals args) :
    ∃ a vs ns, vals = [Value.ref a] ∧ args = [WData.list (ns.map WData.int)] ∧ h.get? a = some { cls := .type "list", data := .seq vs.toArray } ∧ IntsAre vs ns ∧ ns.length ≤ n := by
  have hsh : WShape.hasAll [] args [.list .int] = true := (pre_splitW hpre).1
  have hc : l.pre.holds [] { args := args } = true := (pre_splitW hpre).2
  obtain ⟨d, r, rfl, h1, h2⟩ := hasAllW_cons hsh
  obtain rfl := hasAllW_nil h2
  obtain ⟨xs, rfl, h3⟩ := hasW_list h1
  obtain ⟨ns, rfl⟩ := items_int h3
  have hlen : ns.length ≤ n := by
    unfold OpenLaw.pre at hc
    have h4 : (WTm.not (.lt (.lit (.int (n : Int))) (.len (.arg 0)))).holds [] { args := [.list (ns.map .int)] } = true := by
      have h4 := (holds_andW hc).1
      rw [hn] at h4
      exact h4
    have h5 := condW_of h4 (w_not (w_lt w_lit (w_len_list (w_arg rfl))))
    rw [List.length_map] at h5
    refine Nat.le_of_not_lt fun q => ?_
    have q' : (n : Int) < ((ns.length : Nat) : Int) := by omega
    first
      | (rw [decide_eq_true q'] at h5; exact absurd h5 (by decide))
      | (simp at h5; omega)
  cases hwl with
  | cons w1 w2 =>
    cases w2
    cases w1 with
    | list ho hall => exact ⟨_, _, ns, rfl, rfl, ho, ints_of_wellAll ns _ hall, hlen⟩
theorem post_true (l : OpenLaw) (args : List WData) : l.row.toRowW.claim.post args (.bool true) args = true :=
  postW_of (r := l.row.toRowW) (X := (true == true))
    (show WShape.has [] (.bool true) .bool = true by first | rfl | decide | simp [WShape.has, WShape.arms, WShape.armsAll])
    (show (WTm.eq .res (.lit (.bool true))).value [] { args := args, res := some (.bool true), after := args } = some (.bool (true == true)) from w_eq_bool (w_res rfl) w_lit) rfl
theorem attach_call {l : OpenLaw} {n : Nat} {q : Program} {loose : List Str} {XP : (Str → Option Value) → Heap → Prop} {YP : World → Heap → Prop} {d : DefRec}
    (hn : l.most = some n) (hdf : d.params.defaults = [])
    (call : ∀ (w : World) (s₀ s₁ : Shared) (mg mb : Str → Option Value) (fa : Addr) (o : Obj) (pm cd doc : Value) (a : Addr) (vs : List Value) (ns : List Int),
      Ground q loose [] XP w s₀ mg mb s₁.heap → YP w s₁.heap →
      s₁.heap.get? fa = some o → o.data = .func (docDef d.name d.params d.body d.scope pm cd doc) → s₁.heap.CodeRec cd d.name → mg d.name = some (.ref fa) →
      s₁.heap.get? a = some { cls := .type "list", data := .seq vs.toArray } → IntsAre vs ns → ns.length ≤ n → s₁.gens = #[] →
      codeAny (model l.prog w) callerA (.call (.ref fa) ⟨[.ref a], []⟩) (fun r s' => r = .ok (.ret (.bool true)) ∧ OldK s₁.heap s'.heap ∧ s'.os = s₁.os ∧ AllBare s'.gens) s₁) :
    WalkO q loose XP YP l.row.toRowW d [] (fun f vs => PySem.call f vs) := by
  intro w s₀ s₁ mg mb G Y fa o pm cd doc dV kV ho hd hcd hD hmg hg args vals as hpre hlay hrd hwl hlo
  obtain rfl : dV = .none := Dflts.none hD hdf
  obtain rfl : kV = .none := Dflts.noKw hD
  obtain ⟨a, vs, ns, rfl, rfl, hobj, hints, hlen⟩ := script_of hn hpre hwl
  refine enter_call (codeAny_mono (call w s₀ s₁ mg mb fa o pm cd doc a vs ns G Y ho (fd_plain hd) hcd hmg hobj hints hlen hg) fun r s' hq => ?_)
  obtain ⟨rfl, h2, h3, h4⟩ := hq
  exact ⟨.inl ⟨.bool true, .bool true, [], rfl, fun _ => rfl, .bool true, post_true l _, fun _ => ⟨List.Pairwise.nil, fun _ hm => (nomatch hm)⟩⟩, h2, h3, h4⟩
end Att
namespace L2
open PySem PySem.Spec PyProof.Rows
theorem vals_ints : ∀ {vs : List Value} {ns : List Int}, IntsAre vs ns → Vals (ns.map V.int) vs
  | _, _, .nil => .nil
  | _, _, .cons n t h => .cons ⟨t, rfl⟩ (vals_ints h)
def Only (H : Hp) : Prop := ∀ b, H b = none ∨ ∃ o xs, H b = some (.frz o (.lst xs))
theorem law_call {P : Program} {w : World} {K : PySem.W.Frag} {mg mb : Str → Option Value} {CX : CXT} {k : Nat} {fa a : Addr} {fd : FuncData} {x : Str} {sp : Sp} {s₁ : Shared} {vs : List Value} {ns : List Int}
    (KX : K.In s₁.heap) (hns : s₁.heap.Ns mainGlobals mg) (hb : s₁.heap.Ns builtinsNs mb) (hbb : ∀ x : Str, x ≠ "__name__" → mb x = bootBuiltins x) (hlim : s₁.heap.NoLimit) (hg : s₁.gens = #[])
    (ha : s₁.heap.get? a = some { cls := .type "list", data := .seq vs.toArray }) (hi : IntsAre vs ns) (hl : ns.length ≤ sizeLine) (hr : Room k callerA)
    (F : ∀ base : Heap, K.In base → base.Ns mainGlobals mg → FnOk P w K mg base CX k fa fd [x] sp) (hbind : ∀ (s : Shared) (u : Value), BindsTo s fd ⟨[u], []⟩ [(x, u)])
    (hsp : ∀ H : Hp, Only H → SqL K H a (ns.map V.int) → sp [.ref a] H (fun v _ => v = .bl true) fun _ _ _ => False)
    (hCX : ∀ H e s', CX [] H s₁ (fun _ _ _ => False) e s' → False) :
    codeAny (model P w) callerA (.call (.ref fa) ⟨[.ref a], []⟩) (fun r s' => r = .ok (.ret (.bool true)) ∧ OldK s₁.heap s'.heap ∧ s'.os = s₁.os ∧ AllBare s'.gens) s₁ := by
  have rv := vals_ints hi
  have lenV := hi.length
  have core : ∀ H : Hp, Only H → SqL K H a (ns.map V.int) → HOk P w H s₁.heap → (∀ b, H b ≠ none → b = a) → (H a ≠ none → K.lookup a = none) →
      codeAny (model P w) callerA (.call (.ref fa) ⟨[.ref a], []⟩) (fun r s' => r = .ok (.ret (.bool true)) ∧ OldK s₁.heap s'.heap ∧ s'.os = s₁.os ∧ AllBare s'.gens) s₁ := by
    intro H hO hS hok hA hK
    have base_of : ∀ {b : Addr} {o : Obj}, s₁.heap.get? b = some o → H b = none → (hidT s₁.heap H).get? b = some o := fun e n => hidT_get e n
    have noA : ∀ {b : Addr} {o : Obj} {es : Array DictEntry} {ep : Nat}, s₁.heap.get? b = some o → o.data = .dict es ep → H b = none := fun {b o es ep} e d => by
      cases q : H b with
      | none => rfl
      | some u =>
        have e' : b = a := hA b (by rw [q]; simp)
        subst e'
        rw [ha] at e; cases e
        have d' : Data.seq vs.toArray _ = Data.dict es ep := d
        cases d'
    have nsK : ∀ {b : Addr} {m : Str → Option Value}, s₁.heap.Ns b m → (hidT s₁.heap H).Ns b m := fun {b m} ⟨o, es, ep, e, d, r⟩ => ⟨o, es, ep, base_of e (noA e d), d, r⟩
    have hKb : K.In (hidT s₁.heap H) := fun b o e => base_of (KX b o e) (by
      cases q : H b with
      | none => rfl
      | some u =>
        have e' : b = a := hA b (by rw [q]; simp)
        subst e'
        rw [hK (by rw [q]; simp)] at e; cases e)
    have hM : Mod K mg (hidT s₁.heap H) := ⟨hKb, nsK hns, ⟨mb, nsK hb, hbb⟩, let ⟨mc, h1, h2⟩ := hlim; ⟨mc, nsK h1, h2⟩⟩
    have e0 : Env0 P w K mg (hidT s₁.heap H) callerA [] s₁ H := ⟨rfl, hM, fun b o e => of_hidT e, Nat.le_of_eq (hidT_size _ _), trivial, fun b hb => absurd (show b ∈ ([] : List Addr) from hb) (by simp), hok, .of_eq hg⟩
    refine codeAny_mono ((F _ hKb (nsK hns)).run callerA [] s₁ H ⟨[.ref a], []⟩ [.ref a] [.ref a] _ _ hr e0 (hbind s₁ (.ref a)) (.cons rfl .nil) (hsp H hO hS)) fun r s' h => ?_
    cases r with
    | error e => exact (hCX H e s' h).elim
    | ok fl =>
      cases fl with
      | next => exact False.elim h
      | brk => exact False.elim h
      | cont => exact False.elim h
      | ret u =>
        obtain ⟨v, H', os, bare, un, hok', r', q⟩ := h
        have q' : v = .bl true := q
        subst q'
        obtain rfl : u = Value.bool true := r'
        refine ⟨rfl, OldK.of_keep fun b o e => ?_, os, bare⟩
        cases q : H b with
        | none => exact un.keep b o e q (by intro z; exact absurd (show b ∈ ([] : List Addr) from z) (by simp)) (by simp)
        | some u =>
          rcases hO b with z | ⟨ob, xs, z⟩
          · rw [q] at z; cases z
          · have z2 := un.frzs b ob _ z
            obtain ⟨e1, _⟩ := hok b _ z
            obtain ⟨e2, _⟩ := hok' b _ z2
            rw [e] at e1; cases e1
            exact e2
  cases hk : K.lookup a with
  | some o =>
    have e := KX a o hk
    rw [ha] at e
    cases e
    refine core (fun _ => none) (fun _ => .inl rfl) (.inr ⟨_, vs.toArray, _, hk, rfl, rfl, rfl, by rw [List.size_toArray, lenV]; exact hl, by simpa using rv⟩) (fun b u z => by have z' : (none : Option HO) = some u := z; cases z') (fun b z => absurd rfl z) fun z => absurd rfl z
  | none =>
    refine core (fun b => if b = a then some (.frz { cls := .type "list", data := .seq vs.toArray } (.lst (ns.map V.int))) else none) (fun b => ?_) (.inl (.inr ⟨{ cls := .type "list", data := .seq vs.toArray }, if_pos rfl⟩)) (fun b u z => ?_) (fun b z => ?_) fun _ => hk
    · by_cases hb : b = a
      · exact .inr ⟨_, _, if_pos hb⟩
      · exact .inl (if_neg hb)
    · by_cases hb : b = a
      · have z' := (if_pos hb).symm.trans z
        cases z'
        subst hb
        exact ⟨ha, by rw [List.length_map]; exact hl, vs, _, rv, ha⟩
      · have z' := (if_neg hb).symm.trans z
        cases z'
    · by_cases hb : b = a
      · exact hb
      · exact absurd (if_neg hb) z
end L2
namespace L2
open PySem PySem.Spec PyProof.Rows
theorem walk_of {l : PySem.W.OpenLaw} {n k : Nat} {q : Program} {loose : List Str} {XP : (Str → Option Value) → Heap → Prop} {YP : World → Heap → Prop} {d : DefRec} {K : Params → PySem.W.Frag} {CX : World → CXT} {sp : World → Sp} {x : Str}
    (hn : l.most = some n) (hn2 : n ≤ sizeLine) (hdf : d.params.defaults = []) (hr : Room k callerA)
    (hY : ∀ (w : World) (h : Heap), YP w h → (K w.params).In h)
    (F : ∀ (w : World) (mg : Str → Option Value) (fa : Addr) (h : Heap), (K w.params).In h → h.Ns mainGlobals mg → mg d.name = some (.ref fa) →
      ∃ fd : FuncData, (∀ (s : Shared) (u : Value), BindsTo s fd ⟨[u], []⟩ [(x, u)]) ∧
        ∀ base : Heap, (K w.params).In base → base.Ns mainGlobals mg → FnOk l.prog w (K w.params) mg base (CX w) k fa fd [x] (sp w))
    (hsp : ∀ (w : World) (H : Hp) (a : Addr) (ns : List Int), ns.length ≤ n → Only H → SqL (K w.params) H a (ns.map V.int) → sp w [.ref a] H (fun v _ => v = .bl true) fun _ _ _ => False)
    (hCX : ∀ (w : World) (H : Hp) (s : Shared) (e : Value) (s' : Shared), CX w [] H s (fun _ _ _ => False) e s' → False) :
    PySem.W.WalkO q loose XP YP l.row.toRowW d [] (fun f vs => PySem.call f vs) := by
  refine Att.attach_call hn hdf fun w s₀ s₁ mg mb fa o pm cd doc a vs ns G Y ho hd hcd hmg hobj hints hlen hg => ?_
  have KX := hY w _ Y
  obtain ⟨fd, hb, hF⟩ := F w mg fa _ KX G.T.g hmg
  exact law_call KX G.T.g G.T.b G.T.builtins G.T.nolimit hg hobj hints (Nat.le_trans hlen hn2) hr hF hb (fun H hO hS => hsp w H a ns hlen hO hS) fun H e s' => hCX w H s₁ e s'
end L2
namespace L2
open PySem PySem.Spec PyProof.Rows
def inClass (s : Stmt) (j : Nat) : Stmt := match s with
  | .ClassDef _ _ _ body _ _ _ _ _ _ _ => body.getD j (.Pass ⟨0, 0, 0, 0⟩)
  | _ => .Pass ⟨0, 0, 0, 0⟩
def defArgs (s : Stmt) : Arguments := match s with
  | .FunctionDef _ a _ _ _ _ _ _ _ _ => a
  | _ => { posonlyargs := [], args := [], vararg := none, kwonlyargs := [], kw_defaults := [], kwarg := none, defaults := [] }
def defBody (s : Stmt) : List Stmt := match s with
  | .FunctionDef _ _ b _ _ _ _ _ _ _ => b
  | _ => []
def defScope (s : Stmt) : Scope := match s with
  | .FunctionDef _ _ _ _ _ _ sc _ _ _ => sc
  | _ => { kind := .function, names := [], isGenerator := false, isCoroutine := false }
abbrev CX0 : CXT := fun _ _ _ _ _ _ => False
abbrev E0 : XK := fun _ _ _ => False
structure Fun (K : PySem.W.Frag) (x qual : Str) (st : Stmt) (f : Addr) (fd : FuncData) : Prop where
  ex : ∃ (oc : Value) (od : Option Addr) (kV doc pm : Value) (an : Option Addr) (cdv ct : Value) (osl : Array (Option Value)),
    fd = PySem.W.fnOf x qual (defArgs st) (defBody st) (defScope st) .none kV doc pm an cdv ct ∧ K.lookup f = some ⟨oc, od, .func fd, osl⟩ ∧ PySem.W.codeIn K cdv qual = true
  kp : PySem.W.keepIn K (.ref f) = true
section
variable {P : Program} {w : World} {K : PySem.W.Frag} {mg : Str → Option Value} {base : Heap}
theorem Fun.ok {x qual : Str} {st : Stmt} {f : Addr} {fd : FuncData} {N ps : List Str} {k : Nat} {sp : Sp} (F : Fun K x qual st f fd) (S : FnScope N ps (defScope st)) (len : ∀ vs H Q E, sp vs H Q E → vs.length = ps.length)
    (hbody : ∀ (cdv : Value) (A : Around) (outer : List Env) (s : Shared) (H : Hp) (vs : List V) (Q : VK) (E : XK), Room k (A.deeper (envOfC qual (defScope st) s.heap.objs.size f cdv)) → sp vs H Q E →
      ∃ t, PSs (cxOf CX0 P w K mg base N qual (defScope st) f cdv A outer s H E).nox (defBody st) t ∧ t { nx := fun _ H' => Q .non H', rt := Q } (start N vs) H) : FnOk P w K mg base CX0 (k + 1) f fd ps sp := by
  obtain ⟨oc, od, kV, doc, pm, an, cdv, ct, osl, rfl, lk, hcd⟩ := F.ex
  refine fn_of lk hcd S len fun A outer s H vs Q E hr hsp => ?_
  obtain ⟨t, h, q⟩ := hbody cdv A outer s H vs Q E hr hsp
  exact ⟨t, h.nox, q⟩
theorem Fun.binds {x qual : Str} {st : Stmt} {f : Addr} {fd : FuncData} {ps : List Str} (F : Fun K x qual st f fd)
    (h : ∀ (kV doc pm : Value) (an : Option Addr) (cdv ct : Value) (us : List Value), us.length = ps.length → bindArgs (PySem.W.fnOf x qual (defArgs st) (defBody st) (defScope st) .none kV doc pm an cdv ct) ⟨us, []⟩ = pure (ps.zip us)) : Binds K fd ps [] := by
  obtain ⟨oc, od, kV, doc, pm, an, cdv, ct, osl, rfl, lk, hcd⟩ := F.ex
  exact .all (h kV doc pm an cdv ct)
theorem fun_mk {x qual : Str} {st : Stmt} {f : Addr} {oc : Value} {od an : Option Addr} {osl : Array (Option Value)} {kV doc pm cdv ct : Value} (l : K.lookup f = some ⟨oc, od, .func (PySem.W.fnOf x qual (defArgs st) (defBody st) (defScope st) .none kV doc pm an cdv ct), osl⟩)
    (c : PySem.W.codeIn K cdv qual = true) (k : PySem.W.keepIn K (.ref f) = true) : Fun K x qual st f (PySem.W.fnOf x qual (defArgs st) (defBody st) (defScope st) .none kV doc pm an cdv ct) := ⟨⟨oc, od, kV, doc, pm, an, cdv, ct, osl, rfl, l, c⟩, k⟩
end
section
variable {X : Cx}
theorem pv (i : Nat) {x : Str} {pos : Pos} (hN : X.N[i]? = some x := by rfl) (hv : Vis X.env.scope x := by first | exact Or.inl rfl | exact Or.inr (Or.inl rfl) | exact Or.inr (Or.inr rfl)) (hd : (x == ("__debug__" : Str)) = false := by decide)
    (hcd : (x == ("__classdict__" : Str)) = false := by decide) : PE X (.Name x pos) (tVar i) := pe_var hN hv hd hcd
end
theorem iteF {A B : Prop} (h : B) : if false = true then A else B := by
  rw [if_neg Bool.false_ne_true]
  exact h
theorem iteT {A B : Prop} (h : A) : if true = true then A else B := by
  rw [if_pos rfl]
  exact h
theorem ite2 {c A B : Prop} [Decidable c] (h1 : c → A) (h2 : ¬ c → B) : if c then A else B := by
  by_cases h : c
  · rw [if_pos h]
    exact h1 h
  · rw [if_neg h]
    exact h2 h
def Same (H H' : Hp) : Prop := ∀ b o, H b = some o → H' b = some o
theorem Same.refl (H : Hp) : Same H H := fun _ _ h => h
theorem Same.trans {H H1 H2 : Hp} (a : Same H H1) (b : Same H1 H2) : Same H H2 := fun c o h => b c o (a c o h)
theorem Same.free {H H' : Hp} (e : Same H H') {l : Addr} (h : H' l = Option.none) : H l = Option.none := by
  cases q : H l with
  | none => rfl
  | some o =>
    rw [e l o q] at h
    cases h
theorem Same.seq {K : PySem.W.Frag} {H H' : Hp} {a : Addr} {xs : List V} (e : Same H H') (h : SqL K H a xs) : SqL K H' a xs := by
  rcases h with (h | ⟨o, h⟩) | h
  · exact .inl (.inl (e _ _ h))
  · exact .inl (.inr ⟨o, e _ _ h⟩)
  · exact .inr h
end L2
set_option Elab.async false
set_option linter.all false
set_option maxRecDepth 100000
namespace L2
open PySem PySem.Spec PyProof.Rows
theorem Vals.cons' {x : V} {u : Value} (r : RelV x u) : Vals [x] [u] := .cons r .nil
end L2
namespace L2
open PySem PySem.Spec PyProof.Rows
theorem Inv.track {X : Cx} {pins : List (Addr × Obj)} {σ : St} {H : Hp} {s : Shared} {D : Addr} {o : HO} (I : Inv X pins σ H s) (hn : H D = none) (h0 : X.s₀.heap.objs.size ≤ D) (hL : D ≠ X.env.locals)
    (hc : ∀ x c, X.env.cells.lookup x = some c → c ≠ D) (hp : ∀ p ∈ X.pn ++ pins, p.1 ≠ D) (new : ObjOk X.prog X.w (upd H D o) s.heap D o) : Inv X pins σ (upd H D o) s := by
  have ne : ∀ b u, H b = some u → b ≠ D := fun b u e => ne_of_none e hn
  refine ⟨I.ok, I.os, I.bare, ⟨I.base.keep, I.base.slot, fun b u e n hx => ?_, I.base.there, fun b xs e => ?_, fun b u xs e => ?_, fun b ps e => ?_⟩, I.loc, I.cell, ?_, fun x c e => ?_, fun p q => ?_, fun b u e => ?_, I.len⟩
  · rw [upd_ne (Nat.ne_of_lt (Nat.lt_of_lt_of_le (Heap.lt_size e) h0))]
    exact I.base.free b u e n hx
  · have e' := I.base.tups b xs e
    rw [upd_ne (ne b _ e')]; exact e'
  · have e' := I.base.frzs b u xs e
    rw [upd_ne (ne b _ e')]; exact e'
  · obtain ⟨more, e'⟩ := I.base.tbls b ps e
    exact ⟨more, by rw [upd_ne (ne b _ e')]; exact e'⟩
  · rw [upd_ne (Ne.symm hL)]; exact I.free
  · rw [upd_ne (hc x c e)]; exact I.freeC x c e
  · obtain ⟨a1, a2, a3, a4, a5⟩ := I.pin p q
    exact ⟨a1, by rw [upd_ne (hp p q)]; exact a2, a3, a4, a5⟩
  · by_cases hb : b = D
    · subst hb; rw [upd_same] at e; cases e; exact new
    · rw [upd_ne hb] at e
      exact (I.hok b u e).stay (fun c v _ q => q) (fun c q => by rw [upd_ne (ne c _ q)]; exact q) fun c xs q => by rw [upd_ne (ne c _ q)]; exact q
def closL : List (Str × NameKind) → List (Str × Addr) → List (Str × Addr) → List (Str × Addr)
  | [], _, acc => acc
  | (n, k) :: r, cells, acc => if k == .free then closL r cells ((n, (cells.lookup n).getD 0) :: acc) else closL r cells acc
theorem closure_go {env : Env} : ∀ (names : List (Str × NameKind)) (acc : List (Str × Addr)), (∀ y ∈ names, y.2 = .free → ∃ c, env.cells.lookup y.1 = some c) →
    (forIn names acc fun x cs => (if x.2 == NameKind.free then do let a ← cellOf env x.1; pure (ForInStep.yield ((x.1, a) :: cs)) else pure (ForInStep.yield cs) : Sem (ForInStep (List (Str × Addr))))) = pure (closL names env.cells acc) := by
  intro names
  induction names with
  | nil => intro acc _; rfl
  | cons p r ih =>
    intro acc h
    obtain ⟨n, k⟩ := p
    rw [List.forIn_cons]
    have hr : ∀ y ∈ r, y.2 = .free → ∃ c, env.cells.lookup y.1 = some c := fun y hy => h y (List.mem_cons_of_mem _ hy)
    by_cases hk : k = .free
    · subst hk
      obtain ⟨c, hc⟩ := h (n, .free) List.mem_cons_self rfl
      have hc' : env.cells.lookup n = some c := hc
      have e1 : cellOf env n = pure c := by unfold cellOf; rw [hc']
      have e2 : closL ((n, NameKind.free) :: r) env.cells acc = closL r env.cells ((n, c) :: acc) := by
        show (if (NameKind.free == NameKind.free) = true then _ else _) = _
        rw [if_pos (by decide), hc']; rfl
      rw [e2, ← ih ((n, c) :: acc) hr]
      simp only [beq_self_eq_true, if_true, e1, pure_bind]
    · have hb : (k == NameKind.free) = false := by simpa using hk
      have e2 : closL ((n, k) :: r) env.cells acc = closL r env.cells acc := by
        show (if (k == NameKind.free) = true then _ else _) = _
        rw [hb]; rfl
      rw [e2, ← ih acc hr]
      simp only [hb, Bool.false_eq_true, if_false, pure_bind]
theorem closure_is {env : Env} {scope : Scope} (h : ∀ y ∈ scope.names, y.2 = .free → ∃ c, env.cells.lookup y.1 = some c) : closureFor scope env = pure (closL scope.names env.cells []) := by
  rw [← closure_go scope.names [] h]
  unfold closureFor
  simp only [bind_pure]
theorem closL_lookup : ∀ (names : List (Str × NameKind)) {cells acc : List (Str × Addr)} {x : Str} {c : Addr}, (∀ y ∈ names, y.2 = .free → ∃ c, cells.lookup y.1 = some c) → (∀ y d, acc.lookup y = some d → cells.lookup y = some d) →
    (closL names cells acc).lookup x = some c → cells.lookup x = some c := by
  intro names
  induction names with
  | nil => intro cells acc x c _ h e; exact h x c e
  | cons p r ih =>
    intro cells acc x c h ha e
    obtain ⟨n, k⟩ := p
    have hr : ∀ y ∈ r, y.2 = .free → ∃ c, cells.lookup y.1 = some c := fun y hy => h y (List.mem_cons_of_mem _ hy)
    by_cases hk : k = .free
    · subst hk
      obtain ⟨d, hd⟩ := h (n, .free) List.mem_cons_self rfl
      have hd' : cells.lookup n = some d := hd
      have e2 : closL ((n, NameKind.free) :: r) cells acc = closL r cells ((n, d) :: acc) := by
        show (if (NameKind.free == NameKind.free) = true then _ else _) = _
        rw [if_pos (by decide), hd']; rfl
      rw [e2] at e
      refine ih hr (fun y q z => ?_) e
      rw [List.lookup_cons] at z
      split at z
      · rename_i hy
        have hy' : y = n := by simpa using hy
        subst hy'
        cases z; exact hd'
      · exact ha y q z
    · have hb : (k == NameKind.free) = false := by simpa using hk
      have e2 : closL ((n, k) :: r) cells acc = closL r cells acc := by
        show (if (k == NameKind.free) = true then _ else _) = _
        rw [hb]; rfl
      rw [e2] at e
      exact ih hr ha e
theorem closL_has : ∀ (names : List (Str × NameKind)) {cells acc : List (Str × Addr)} {x : Str}, ((x, NameKind.free) ∈ names ∨ ∃ d, acc.lookup x = some d) → ∃ c, (closL names cells acc).lookup x = some c := by
  intro names
  induction names with
  | nil =>
    intro cells acc x h
    rcases h with h | h
    · exact absurd h (by simp)
    · exact h
  | cons p r ih =>
    intro cells acc x h
    obtain ⟨n, k⟩ := p
    by_cases hk : k = .free
    · subst hk
      have e2 : closL ((n, NameKind.free) :: r) cells acc = closL r cells ((n, (cells.lookup n).getD 0) :: acc) := by
        show (if (NameKind.free == NameKind.free) = true then _ else _) = _
        rw [if_pos (by decide)]
      rw [e2]
      refine ih ?_
      by_cases hx : x = n
      · exact .inr ⟨(cells.lookup n).getD 0, by subst hx; simp [List.lookup_cons]⟩
      · rcases h with h | ⟨d, h⟩
        · rcases List.mem_cons.mp h with q | q
          · exact absurd (congrArg Prod.fst q) hx
          · exact .inl q
        · refine .inr ⟨d, ?_⟩
          rw [List.lookup_cons]
          have : (x == n) = false := by simpa using hx
          rw [this]; exact h
    · have hb : (k == NameKind.free) = false := by simpa using hk
      have e2 : closL ((n, k) :: r) cells acc = closL r cells acc := by
        show (if (k == NameKind.free) = true then _ else _) = _
        rw [hb]; rfl
      rw [e2]
      refine ih ?_
      rcases h with h | h
      · rcases List.mem_cons.mp h with q | q
        · exact absurd (congrArg Prod.snd q).symm hk
        · exact .inl q
      · exact .inr h
theorem relabel_lookup {env : Env} : ∀ (names : List (Str × NameKind)) (x : Str),
    (names.map fun (n, k) => if (k == NameKind.free && env.scope.kind == .function && env.kindOf n == some .cell) then (n, NameKind.cell) else (n, k)).lookup x =
      (names.lookup x).map fun k => if (k == NameKind.free && env.scope.kind == .function && env.kindOf x == some .cell) then NameKind.cell else k
  | [], _ => rfl
  | (n, k) :: r, x => by
    have ih := @relabel_lookup env r x
    show List.lookup x ((if (k == NameKind.free && env.scope.kind == .function && env.kindOf n == some .cell) = true then (n, NameKind.cell) else (n, k)) :: _) = _
    by_cases hx : x = n
    · subst hx
      by_cases hc : (k == NameKind.free && env.scope.kind == .function && env.kindOf x == some .cell) = true
      · rw [if_pos hc]; simp only [List.lookup_cons, beq_self_eq_true, Option.map_some]; rw [if_pos hc]
      · rw [if_neg hc]; simp only [List.lookup_cons, beq_self_eq_true, Option.map_some]; rw [if_neg hc]
    · have hb : (x == n) = false := by simpa using hx
      by_cases hc : (k == NameKind.free && env.scope.kind == .function && env.kindOf n == some .cell) = true
      · rw [if_pos hc]; simp only [List.lookup_cons, hb]; exact ih
      · rw [if_neg hc]; simp only [List.lookup_cons, hb]; exact ih
def compOk (scope outer : Scope) (N : List Str) (x : Str) : Bool :=
  (scope.kind == .function) && scope.names.all (fun y => !(y.2 == .cell)) && scope.names.all (fun y => !(y.2 == .local) || (y.1 == x || y.1 == ".0")) &&
    scope.names.all (fun y => !(y.2 == .local) || scope.names.lookup y.1 == some .local) && (scope.names.lookup x == some .local) &&
    scope.names.all (fun y => !(y.2 == .free) || (outer.names.lookup y.1 == some .cell || outer.names.lookup y.1 == some .free)) &&
    !(N.contains ".0") && (scope.names.lookup (x ++ "'") == none) && decide (x :: N.map fun y => if y = x then x ++ "'" else y).Nodup
def compN (N : List Str) (x : Str) : List Str := x :: N.map fun y => if y = x then x ++ "'" else y
structure CompOk (scope outer : Scope) (N : List Str) (x : Str) : Prop where
  kind : scope.kind = .function
  nocell : ∀ y ∈ scope.names, y.2 ≠ .cell
  loc : ∀ y ∈ scope.names, y.2 = .local → y.1 = x ∨ y.1 = ".0"
  names : ∀ y ∈ scope.names, y.2 = .local → scope.names.lookup y.1 = some .local
  own : scope.names.lookup x = some .local
  free : ∀ y ∈ scope.names, y.2 = .free → outer.names.lookup y.1 = some .cell ∨ outer.names.lookup y.1 = some .free
  dot : (".0" : Str) ∉ N
  prime : scope.names.lookup (x ++ "'") = none
  nd : (compN N x).Nodup
theorem compOk_iff {scope outer : Scope} {N : List Str} {x : Str} (h : compOk scope outer N x = true) : CompOk scope outer N x := by
  unfold compOk at h
  simp only [Bool.and_eq_true, List.all_eq_true, Bool.or_eq_true, Bool.not_eq_true', beq_iff_eq, beq_eq_false_iff_ne, decide_eq_true_eq] at h
  obtain ⟨⟨⟨⟨⟨⟨⟨⟨h1, h2⟩, h3⟩, h4⟩, h5⟩, h6⟩, h7⟩, h8⟩, h9⟩ := h
  refine ⟨h1, h2, fun y hy e => ?_, fun y hy e => ?_, h5, fun y hy e => ?_, ?_, h8, h9⟩
  · rcases h3 y hy with z | z
    · exact absurd e z
    · exact z
  · rcases h4 y hy with z | z
    · exact absurd e z
    · exact z
  · rcases h6 y hy with z | z
    · exact absurd e z
    · exact z
  · intro z
    have : N.contains ".0" = true := List.contains_iff_mem.mpr z
    rw [this] at h7; cases h7
end L2
namespace L2
open PySem PySem.Spec PyProof.Rows
theorem compLoop_any {prog : Program} {w : World} {A : Around} {R : Result → Shared → Prop} {s : Shared} {elt target iter : Expr} {ifs : List Expr} {scope : Scope} {pos : Pos} {it acc : Value} {env : Env} (I : Nat → Shared → Prop)
    (turn : ∀ n s, I n s → wpAny (model prog w) A (pyNext it) (fun r s₁ => match r with
      | none => R (.ok .next) s₁
      | some v => wpAny (model prog w) A (letOwnedTupleGo target it v) (fun _ s₁ => wpAny (model prog w) A (assign target env v) (fun _ s₂ =>
          wpAny (model prog w) A (forIn ifs true fun c r => if r = true then do let ok ← isTrue c env (eval c env); pure (ForInStep.yield ok) else pure (ForInStep.yield r)) (fun ok s₃ =>
            if ok = true then wpAny (model prog w) A (eval elt env) (fun x s₄ =>
              wpAny (model prog w) A (call (.builtin "list.append") [acc, x]) (fun _ s₅ => ∃ m, m < n ∧ I m s₅) (fun _ _ => False) s₄) (fun _ _ => False) s₃
            else ∃ m, m < n ∧ I m s₃) (fun _ _ => False) s₂) (fun _ _ => False) s₁) (fun _ _ => False) s₁) (fun _ _ => False) s)
    (n : Nat) (h : I n s) :
    codeAny (model prog w) A (.compLoop (.ListComp elt [⟨target, iter, ifs, 0⟩] scope pos) 0 it acc env) R s := by
  refine codeAny_loop rfl I (fun n s hI => ?_) n h
  show wpAny _ A ((compTurn (.ListComp elt [⟨target, iter, ifs, 0⟩] scope pos) 0 it acc env).onRaise (fun x => do noteFrame x env; theTreesLotGoes x)) _ _ s
  refine wpAny_noted ?_
  rw [compTurn_list]
  refine wpAny_bind (wpAny_standAt (wpAny_bind (wpAny_mono (turn n s hI) (fun r s₁ h₁ => ?_) fun _ _ h' => h'.elim)))
  cases r with
  | none => exact wpAny_pure h₁
  | some v =>
    refine wpAny_bind (wpAny_mono h₁ (fun _ s₁ h₁ => ?_) fun _ _ h' => h'.elim)
    refine wpAny_bind (wpAny_mono h₁ (fun _ s₂ h₂ => wpAny_bind (wpAny_mono h₂ (fun ok s₃ h₃ => ?_) fun _ _ h' => h'.elim)) fun _ _ h' => h'.elim)
    cases ok with
    | false => exact wpAny_pure ⟨rfl, h₃⟩
    | true =>
      exact wpAny_bind (wpAny_bind (wpAny_mono h₃ (fun x s₄ h₄ => wpAny_bind (wpAny_mono h₄ (fun _ s₅ h₅ => wpAny_pure (wpAny_pure ⟨rfl, h₅⟩)) fun _ _ h' => h'.elim)) fun _ _ h' => h'.elim))
section
variable {X : Cx}
def PIfs (X : Cx) (ifs : List Expr) (t : TT) : Prop :=
  ∀ (pins : List (Addr × Obj)) (s : Shared) (σ : St) (H : Hp) (Q : Bool → Hp → Prop), Inv X pins σ H s → t σ H Q →
    wpAny (model X.prog X.w) X.A (forIn ifs true fun c r => if r = true then do let ok ← isTrue c X.env (eval c X.env); pure (ForInStep.yield ok) else pure (ForInStep.yield r)) (TP X pins σ Q) X.xe s
def tYes : TT := fun _ H Q => Q true H
theorem pif_nil : PIfs X [] tYes := fun _ _ _ H _ I h => wpAny_tests_nil ⟨H, I, h⟩
theorem pif_one {c : Expr} {t : TT} (h : PT X c t) : PIfs X [c] t := fun pins s σ H Q I hw => wpAny_tests_one (h pins s σ H Q I hw)
def cxComp (X : Cx) (x : Str) (scope : Scope) (s : Shared) (H : Hp) (ex : List Addr) : Cx :=
  { X with
    N := compN X.N x
    s₀ := s
    H₀ := H
    env := compEnvC scope (closL scope.names X.env.cells []) s.heap.objs.size X.env
    outer := X.stack
    stack := X.stack
    ex := ex
    fn := fun _ => false
    pn := []
    xe := fun _ _ => False }
def CompW (J : It) (tc : TT) (te : TE) (σ : St) (fin : List V → Hp → Prop) (W : Nat → Nat → List V → Hp → Prop) : Prop :=
  ∀ i m ys H, W i m ys H → ys.length ≤ sizeLine ∧ ((J.stop i H ∧ fin ys H) ∨
    (J.go i H ∧ ∀ v H', J.yld i H v H' → tc (some v :: σ) H' fun b H2 => if b = true then te (some v :: σ) H2 fun y H3 => ∃ m', m' < m ∧ W (i + 1) m' (ys ++ [y]) H3 else ∃ m', m' < m ∧ W (i + 1) m' ys H2))
theorem lookup_mem {α : Type} : ∀ {l : List (Str × α)} {x : Str} {k : α}, l.lookup x = some k → (x, k) ∈ l
  | [], _, _, h => by simp at h
  | (n, k') :: r, x, k, h => by
    rw [List.lookup_cons] at h
    split at h
    · rename_i hx
      have : x = n := by simpa using hx
      subst this
      cases h
      exact List.mem_cons_self
    · exact List.mem_cons_of_mem _ (lookup_mem h)
theorem compN_get {N : List Str} {x y : Str} {i : Nat} (h : (compN N x)[i + 1]? = some y) : (N[i]? = some y ∧ y ≠ x) ∨ y = x ++ "'" := by
  unfold compN at h
  rw [List.getElem?_cons_succ, List.getElem?_map] at h
  cases e : N[i]? with
  | none => rw [e] at h; cases h
  | some z =>
    rw [e] at h
    have h' : (if z = x then x ++ "'" else z) = y := by simpa using h
    by_cases hz : z = x
    · rw [if_pos hz] at h'; exact .inr h'.symm
    · rw [if_neg hz] at h'
      subst h'
      exact .inl ⟨rfl, hz⟩
theorem comp_start {x : Str} {scope : Scope} {pins : List (Addr × Obj)} {σ : St} {H : Hp} {s : Shared} {h₁ : Heap} {ex : List Addr} (ok : CompOk scope X.env.scope X.N x) (hc : X.calm = true) (I : Inv X pins σ H s)
    (hns : h₁.Ns s.heap.objs.size fun _ => none) (hk : ∀ b o, s.heap.get? b = some o → h₁.get? b = some o)
    (hex : ∀ b ∈ ex, b < s.heap.objs.size ∧ b ≠ X.env.locals ∧ b ∉ X.fs ∧ H b = none ∧ (b ∈ X.ex ∨ X.s₀.heap.objs.size ≤ b) ∧ (∀ y c, X.env.cells.lookup y = some c → c ≠ b)) {tk : Nat} :
    Inv (cxComp X x scope s H ex) [] (none :: σ) H { s with heap := h₁, toks := tk } := by
  have hfree : ∀ y ∈ scope.names, y.2 = .free → ∃ c, X.env.cells.lookup y.1 = some c := fun y hy e => I.ok.has y.1 (ok.free y hy e)
  have cl : ∀ y c, (closL scope.names X.env.cells []).lookup y = some c → X.env.cells.lookup y = some c := fun y c e => closL_lookup scope.names hfree (fun _ _ z => by simp at z) e
  have clt : ∀ y c, X.env.cells.lookup y = some c → c < s.heap.objs.size := fun y c e => by
    obtain ⟨v, q⟩ := I.cell y c e
    exact q.lt
  have kindL : ∀ y, (compEnvC scope (closL scope.names X.env.cells []) s.heap.objs.size X.env).kindOf y = (scope.names.lookup y).map fun k => if (k == NameKind.free && X.env.scope.kind == .function && X.env.kindOf y == some .cell) then NameKind.cell else k := fun y => relabel_lookup scope.names y
  have freeOf : ∀ y, (∃ k, (compEnvC scope (closL scope.names X.env.cells []) s.heap.objs.size X.env).kindOf y = some k ∧ (k = .cell ∨ k = .free)) → (y, NameKind.free) ∈ scope.names := fun y ⟨k, e, hk⟩ => by
    rw [kindL] at e
    cases q : scope.names.lookup y with
    | none => rw [q] at e; cases e
    | some k' =>
      have mem := lookup_mem q
      by_cases hf : k' = .free
      · subst hf; exact mem
      · rw [q] at e
        have hb : (k' == NameKind.free) = false := by simpa using hf
        simp only [Option.map_some, hb, Bool.false_and, Bool.false_eq_true, if_false, Option.some.injEq] at e
        subst e
        rcases hk with z | z
        · exact absurd z (ok.nocell _ mem)
        · exact absurd z hf
  have stackFr : ∀ b ∈ frs X.stack, b = X.env.locals ∨ b ∈ X.fs := fun b hb => List.mem_cons.mp (I.stkSub b hb)
  refine ⟨⟨I.ok.mod, ?_, I.ok.glob, I.ok.blt, Nat.le_refl _, fun y z c e1 e2 => ?_, fun y hy => ?_, fun y c z _ => ?_, fun _ => I.ok.hd hc, I.ok.frames, .inl rfl, fun b hb => ⟨?_, fun y c e => ?_⟩, fun b o e => ?_, ?_, fun b o e hb => ?_, fun b hb hf => ?_, ?_, fun b hb => ?_⟩,
    rfl, I.bare, Un.kept hk, ⟨_, hns, fun i y v e1 e2 e3 => ?_⟩, fun y c e => ?_, I.hok.fresh (Nat.le_refl _), fun y c e => I.freeC y c (cl y c e), fun p hp => ?_, I.hok.kept hk, ?_⟩
  · exact ok.kind
  · exact I.ok.inj y z c (cl y c e1) (cl z c e2)
  · have hm : (y, NameKind.free) ∈ scope.names := by
      rcases hy with z | z
      · exact freeOf y ⟨_, z, .inl rfl⟩
      · exact freeOf y ⟨_, z, .inr rfl⟩
    exact closL_has scope.names (.inl hm)
  · exact absurd (show false = true from z) (by decide)
  · exact Nat.ne_of_lt (hex b hb).1
  · exact (hex b hb).2.2.2.2.2 y c (cl y c e)
  · obtain ⟨e1, e2⟩ := I.bs b o e
    exact ⟨e1, e2⟩
  · exact Nat.le_trans I.ok.bsz I.sz
  · rcases (hex b hb).2.2.2.2.1 with z | z
    · exact I.ok.noex b o e z
    · exact absurd (Nat.lt_of_lt_of_le (Heap.lt_size (I.ok.bs b o e).1) z) (Nat.lt_irrefl _)
  · rcases stackFr b hf with z | z
    · exact (hex b hb).2.1 z
    · exact (hex b hb).2.2.1 z
  · exact I.stack
  · exact I.stkFree b hb
  · cases i with
    | zero =>
      have : (none :: σ)[0]? = some (some v) := e2
      simp at this
    | succ i =>
      have e2' : σ[i]? = some (some v) := by simpa using e2
      have vis : Vis (relabel scope X.env) y := e3
      rcases compN_get e1 with ⟨eN, hyx⟩ | hp
      ·
        have kf : (y, NameKind.free) ∈ scope.names := by
          have k3 : ∃ k, (compEnvC scope (closL scope.names X.env.cells []) s.heap.objs.size X.env).kindOf y = some k ∧ (k = .local ∨ k = .cell ∨ k = .free) := by
            rcases vis with z | z | z
            · exact ⟨_, z, .inl rfl⟩
            · exact ⟨_, z, .inr (.inl rfl)⟩
            · exact ⟨_, z, .inr (.inr rfl)⟩
          obtain ⟨k, e, hk3⟩ := k3
          rcases hk3 with hl | hk3
          · subst hl
            have e' := e
            rw [kindL] at e'
            cases q : scope.names.lookup y with
            | none => rw [q] at e'; cases e'
            | some k' =>
              have mem := lookup_mem q
              rw [q] at e'
              have hk' : k' = .local := by
                by_cases hcnd : (k' == NameKind.free && X.env.scope.kind == .function && X.env.kindOf y == some .cell) = true
                · simp only [Option.map_some, hcnd, if_true, Option.some.injEq] at e'
                  cases e'
                · simp only [Option.map_some, hcnd, Bool.false_eq_true, if_false, Option.some.injEq] at e'
                  exact e'
              subst hk'
              rcases ok.loc _ mem rfl with z | z
              · exact absurd z hyx
              · have : y = ".0" := z
                subst this
                exact absurd (List.mem_of_getElem? eN) ok.dot
          · exact freeOf y ⟨k, e, hk3⟩
        have hout := ok.free _ kf rfl
        have visO : Vis X.env.scope y := by
          rcases hout with z | z
          · exact .inr (.inl z)
          · exact .inr (.inr z)
        obtain ⟨m, hn, hl⟩ := I.loc
        obtain ⟨u, ru, lk⟩ := hl i y v eN e2' visO
        refine ⟨u, ru, ?_⟩
        rcases lk with ⟨lk, _⟩ | ⟨_, c, ec, hcell⟩
        · have lk' : X.env.scope.names.lookup y = some .local := lk
          rcases hout with z | z <;> (have z' : X.env.scope.names.lookup y = _ := z; rw [lk'] at z'; cases z')
        · obtain ⟨c', ec'⟩ := closL_has (cells := X.env.cells) (acc := []) scope.names (.inl kf)
          have : c' = c := by
            have := cl y c' ec'
            rw [ec] at this; cases this; rfl
          subst this
          have kk : (compEnvC scope (closL scope.names X.env.cells []) s.heap.objs.size X.env).kindOf y = some .cell ∨ (compEnvC scope (closL scope.names X.env.cells []) s.heap.objs.size X.env).kindOf y = some .free := by
            rcases vis with z | z | z
            ·
              have z' : (compEnvC scope (closL scope.names X.env.cells []) s.heap.objs.size X.env).kindOf y = some .local := z
              rw [kindL] at z'
              cases q : scope.names.lookup y with
              | none => rw [q] at z'; cases z'
              | some k' =>
                have mem := lookup_mem q
                rw [q] at z'
                have hk' : k' = .local := by
                  by_cases hcnd : (k' == NameKind.free && X.env.scope.kind == .function && X.env.kindOf y == some .cell) = true
                  · simp only [Option.map_some, hcnd, if_true, Option.some.injEq] at z'
                    cases z'
                  · simp only [Option.map_some, hcnd, Bool.false_eq_true, if_false, Option.some.injEq] at z'
                    exact z'
                subst hk'
                rcases ok.loc _ mem rfl with zz | zz
                · exact absurd zz hyx
                · have : y = ".0" := zz
                  subst this
                  exact absurd (List.mem_of_getElem? eN) ok.dot
            · exact .inl z
            · exact .inr z
          refine .inr ⟨kk, c', ec', ?_⟩
          obtain ⟨oc, hoc, hd⟩ := hcell
          exact ⟨oc, hk _ _ hoc, hd⟩
      · subst hp
        exfalso
        have kn : (compEnvC scope (closL scope.names X.env.cells []) s.heap.objs.size X.env).kindOf (x ++ "'") = none := by rw [kindL, ok.prime]; rfl
        rcases vis with z | z | z
        · have z' : (compEnvC scope (closL scope.names X.env.cells []) s.heap.objs.size X.env).kindOf (x ++ "'") = some .local := z
          rw [kn] at z'; cases z'
        · have z' : (compEnvC scope (closL scope.names X.env.cells []) s.heap.objs.size X.env).kindOf (x ++ "'") = some .cell := z
          rw [kn] at z'; cases z'
        · have z' : (compEnvC scope (closL scope.names X.env.cells []) s.heap.objs.size X.env).kindOf (x ++ "'") = some .free := z
          rw [kn] at z'; cases z'
  · obtain ⟨v, oc, hoc, hd⟩ := I.cell y c (cl y c e)
    exact ⟨v, oc, hk _ _ hoc, hd⟩
  · exact absurd (show p ∈ ([] : List (Addr × Obj)) from hp) (by simp)
  · show (none :: σ).length = (compN X.N x).length
    unfold compN
    rw [List.length_cons, List.length_cons, List.length_map, I.len]
end
end L2
namespace L2
open PySem PySem.Spec PyProof.Rows
section
variable {X : Cx}
theorem Heap.SameBut.keeps {a : Addr} {h h' : Heap} (k : Heap.SameBut a h h') {b : Addr} {o : Obj} (hb : b ≠ a) (e : h.get? b = some o) : h'.get? b = some o := (k.2 b hb).trans e
theorem comp_loop {x : Str} {px pos : Pos} {scope : Scope} {elt iter : Expr} {ifs : List Expr} {tc : TT} {te : TE} {pins : List (Addr × Obj)} {σ : St} {H₂ : Hp} {s₃ : Shared} {h₁ : Heap} {tk : Nat} {it D : Addr} {fp : List Addr} {tn : Nat → Heap → Prop} {J : It} {fin : List V → Hp → Prop}
    {W : Nat → Nat → List V → Hp → Prop} {RR : Value → Addr → Result → Shared → Prop}
    (ok : CompOk scope X.env.scope X.N x) (hc : X.calm = true) (hif : ∀ s H ex, PIfs (cxComp X x scope s H ex) ifs tc) (he : ∀ s H ex, PE (cxComp X x scope s H ex) elt te)
    (I3 : Inv X pins σ H₂ s₃) (T : Turn X.prog X.w X.K (.Name x px) J fp it tn) (st : tn 0 s₃.heap) (f2 : ∀ b ∈ fp, FpOk X pins H₂ b) (w0 : ∃ m, W 0 m [] H₂) (hW : CompW J tc te σ fin W)
    (hDfresh : H₂ D = none) (fD : FpOk X pins H₂ D) (h0D : X.s₀.heap.objs.size ≤ D) (hobjD : s₃.heap.get? D = some { cls := .type "list", dict := none, data := .seq ([] : List Value).toArray }) (Dfp : D ∉ fp)
    (hns₁ : h₁.Ns s₃.heap.objs.size fun _ => none) (keep31 : ∀ b o, s₃.heap.get? b = some o → h₁.get? b = some o)
    (hRR : ∀ D C ys H' s', H' D = none → fin ys H' → Inv X pins σ (upd H' D (.lst ys)) s' → FpOk X pins (upd H' D (.lst ys)) C → (∃ m, s'.heap.Ns C m) → RR (.ref D) C (.ok .next) s') :
    codeAny (model X.prog X.w) X.A (.compLoop (.ListComp elt [⟨.Name x px, iter, ifs, 0⟩] scope pos) 0 (.ref it) (.ref D) (compEnvC scope (closL scope.names X.env.cells []) s₃.heap.objs.size X.env)) (RR (.ref D) s₃.heap.objs.size) { s₃ with heap := h₁, toks := tk } := by
  have hfpex : ∀ b ∈ fp, ∃ o, s₃.heap.get? b = some o ∧ ∀ v, o.data ≠ .cell v := T.obj 0 s₃.heap st
  have hex : ∀ b ∈ D :: fp, b < s₃.heap.objs.size ∧ b ≠ X.env.locals ∧ b ∉ X.fs ∧ H₂ b = none ∧ (b ∈ X.ex ∨ X.s₀.heap.objs.size ≤ b) ∧ (∀ y c, X.env.cells.lookup y = some c → c ≠ b) := fun b hb => by
    rcases List.mem_cons.mp hb with e | hb
    · subst e
      obtain ⟨g0, g1, g2, g3, g4, g5⟩ := fD
      exact ⟨Heap.lt_size hobjD, g1, g2, g0, g3, g4⟩
    · obtain ⟨g0, g1, g2, g3, g4, g5⟩ := f2 b hb
      obtain ⟨o, eo, _⟩ := hfpex b hb
      exact ⟨Heap.lt_size eo, g1, g2, g0, g3, g4⟩
  have I4 := comp_start (ex := D :: fp) (tk := tk) ok hc I3 hns₁ keep31 hex
  generalize hY : cxComp X x scope s₃ H₂ (D :: fp) = Y at I4
  have Yprog : Y.prog = X.prog := by rw [← hY]; rfl
  have Yw : Y.w = X.w := by rw [← hY]; rfl
  have YK : Y.K = X.K := by rw [← hY]; rfl
  have YA : Y.A = X.A := by rw [← hY]; rfl
  have Yc : Y.calm = true := by rw [← hY]; exact hc
  have YN : Y.N.Nodup := by rw [← hY]; exact ok.nd
  have Y0 : Y.N[0]? = some x := by rw [← hY]; rfl
  have Yenv : Y.env = compEnvC scope (closL scope.names X.env.cells []) s₃.heap.objs.size X.env := by rw [← hY]; rfl
  have Yx : Y.env.scope.names.lookup x = some .local := by rw [Yenv]; exact lookup_relabel_local ok.own
  have Yfs : Y.fs = frs X.stack := by rw [← hY]; rfl
  have Yex : Y.ex = D :: fp := by rw [← hY]; rfl
  have Ys0 : Y.s₀ = s₃ := by rw [← hY]; rfl
  have YH0 : Y.H₀ = H₂ := by rw [← hY]; rfl
  have Ypn : Y.pn = [] := by rw [← hY]; rfl
  have Yxe : Y.xe = fun _ _ => False := by rw [← hY]; rfl
  have hif' : PIfs Y ifs tc := by rw [← hY]; exact hif _ _ _
  have he' : PE Y elt te := by rw [← hY]; exact he _ _ _
  have Dne : D ≠ Y.env.locals := by rw [Yenv]; exact Nat.ne_of_lt (Heap.lt_size hobjD)
  have Dfs : D ∉ Y.fs := by
    rw [Yfs]; intro hb
    rcases List.mem_cons.mp (I3.stkSub D hb) with z | z
    · exact fD.2.1 z
    · exact fD.2.2.1 z
  have Dcell : ∀ y c, Y.env.cells.lookup y = some c → c ≠ D := fun y c e => by
    have hfree : ∀ y ∈ scope.names, y.2 = .free → ∃ c, X.env.cells.lookup y.1 = some c := fun y hy e => I3.ok.has y.1 (ok.free y hy e)
    rw [Yenv] at e
    exact fD.2.2.2.2.1 y c (closL_lookup scope.names hfree (fun _ _ z => by simp at z) e)
  have fpY : ∀ {H' : Hp} {pl : List (Addr × Obj)}, (∀ b ∈ fp, H' b = none) → (∀ p ∈ pl, p.1 ∉ fp) → ∀ b ∈ fp, FpOk Y pl H' b := fun {H' pl} hn hp b hb => by
    obtain ⟨g0, g1, g2, g3, g4, g5⟩ := f2 b hb
    have hlt := (hex b (List.mem_cons_of_mem _ hb)).1
    refine ⟨hn b hb, ?_, ?_, .inl (by rw [Yex]; exact List.mem_cons_of_mem _ hb), fun y c e => ?_, fun p q z => ?_⟩
    · rw [Yenv]; exact Nat.ne_of_lt hlt
    · rw [Yfs]; intro z
      rcases List.mem_cons.mp (I3.stkSub b z) with z | z
      · exact g1 z
      · exact g2 z
    · have hfree : ∀ y ∈ scope.names, y.2 = .free → ∃ c, X.env.cells.lookup y.1 = some c := fun y hy e => I3.ok.has y.1 (ok.free y hy e)
      rw [Yenv] at e
      exact g4 y c (closL_lookup scope.names hfree (fun _ _ z => by simp at z) e)
    · rw [Ypn, List.nil_append] at q
      exact hp p q (by rw [z]; exact hb)
  have DY : ∀ {H' : Hp}, H' D = none → FpOk Y [] H' D := fun {H'} hn => ⟨hn, Dne, Dfs, .inl (by rw [Yex]; exact List.mem_cons_self), Dcell, fun p q => absurd (show p ∈ ([] : List (Addr × Obj)) by rw [Ypn] at q; exact q) (by simp)⟩
  have pinD : ∀ {σ' : St} {H' : Hp} {s' : Shared} {its : Array Value} {n : Nat}, Inv Y [] σ' H' s' → H' D = none → s'.heap.get? D = some { cls := .type "list", data := .seq its n } → Inv Y [(D, { cls := .type "list", data := .seq its n })] σ' H' s' := fun {σ' H' s' its n} J' hn e => by
    refine J'.pins_of fun p hp => ?_
    have : p = (D, { cls := .type "list", data := .seq its n }) := by simpa using hp
    subst this
    exact ⟨e, hn, Dne, Dfs, fun v z => by
      have z' : Data.seq its n = Data.cell v := z
      cases z'⟩
  rw [← Yenv]
  obtain ⟨m0, w0⟩ := w0
  refine compLoop_any (fun m s' => ∃ i ys σ0 H' its n, Inv Y [(D, { cls := .type "list", data := .seq its n })] (σ0 :: σ) H' s' ∧ tn i s'.heap ∧ (∀ b ∈ fp, H' b = none) ∧ Vals ys its.toList ∧ W i m ys H') ?_ m0
    ⟨0, [], none, H₂, _, _, pinD I4 hDfresh (keep31 D _ hobjD), T.keep 0 _ _ st (fun b _ o e => keep31 b o e), fun b hb => (f2 b hb).1, .nil, w0⟩
  rintro m s' ⟨i, ys, σ0, H', its, n, J', st', fr', rv, w'⟩
  obtain ⟨hle, hW'⟩ := hW i m ys H' w'
  have hDn : H' D = none := (J'.pin (D, { cls := .type "list", data := .seq its n }) (by simp)).2.1
  have fpn : ∀ p ∈ [((D, { cls := .type "list", data := .seq its n }) : Addr × Obj)], p.1 ∉ fp := fun p hp => by
    have : p = (D, { cls := .type "list", data := .seq its n }) := by simpa using hp
    subst this; exact Dfp
  rcases hW' with ⟨stop, hf⟩ | ⟨go, step⟩
  ·
    have h9 := T.done Y Yprog Yw YK Yc i _ s' (σ0 :: σ) H' (fun _ _ => False) J' (fpY fr' fpn) st' stop
    rw [YA] at h9
    refine thn h9 fun r s5 ⟨hr, J5⟩ => ?_
    subst hr
    show RR (.ref D) s₃.heap.objs.size (.ok .next) s5
    have eD := (J5.pin (D, { cls := .type "list", data := .seq its n }) (by simp)).1
    have un : Un (frs X.stack) (D :: fp) H₂ H' s₃.heap s5.heap := by
      have := J5.base
      rw [Yfs, Yex, YH0, Ys0] at this
      exact this
    have hok5 : HOk X.prog X.w H' s5.heap := by
      have := J5.hok
      rw [Yprog, Yw] at this
      exact this
    have os5 : s5.os = s₃.os := by have := J5.os; rw [Ys0] at this; exact this
    have I5 : Inv X pins σ H' s5 := I3.call' os5 un hok5 J5.bare fun b hb => by
      rcases List.mem_cons.mp hb with e | hb
      · subst e; exact ⟨fD.2.2.2.1, fD.2.1, fD.2.2.2.2.1, fD.2.2.2.2.2⟩
      · obtain ⟨g0, g1, g2, g3, g4, g5⟩ := f2 b hb
        exact ⟨g3, g1, g4, g5⟩
    have I6 : Inv X pins σ (upd H' D (.lst ys)) s5 := I5.track hDn h0D fD.2.1 fD.2.2.2.2.1 fD.2.2.2.2.2 ⟨hle, its.toList, n, rv, by simpa using eD⟩
    obtain ⟨mC, hnC, _⟩ := J5.loc
    have eL : Y.env.locals = s₃.heap.objs.size := by rw [Yenv]; rfl
    have hCn : H' s₃.heap.objs.size = none := by have := J5.free; rw [eL] at this; exact this
    refine hRR D s₃.heap.objs.size ys H' s5 hDn hf I6 ?_ ⟨mC, by rw [← eL]; exact hnC⟩
    exact I3.fpOk (Nat.le_refl _) (by rw [upd_ne (Nat.ne_of_gt (Heap.lt_size hobjD))]; exact hCn)
  ·
    have h9 := T.item Y Yprog Yw YK Yc i _ s' (σ0 :: σ) H' (fun _ _ => False) J' (fpY fr' fpn) st' go
    rw [YA] at h9
    refine thn h9 fun r s5 ⟨u, hr, h5⟩ => ?_
    subst hr
    refine thn h5 fun _ s6 ⟨v, H6, J6, rv6, y6, st6, fr6⟩ => ?_
    have hDn6 : H6 D = none := (J6.pin (D, { cls := .type "list", data := .seq its n }) (by simp)).2.1
    have J6' := J6.pinned (fp := fp) (fpY fr6 fpn) (T.obj _ _ st6)
    have hst := step v H6 y6
    refine wpAny_assign_Name ?_
    have hst1 : ∀ Q', (∀ s7, Inv Y ([(D, { cls := .type "list", data := .seq its n })] ++ pinsAt fp s6.heap) (some v :: σ) H6 s7 → Q' () s7) → wpAny (model X.prog X.w) X.A (storeName Y.env x u) Q' (fun _ _ => False) s6 := fun Q' hQ' =>
      store_ok (i := 0) (σ := σ0 :: σ) J6' YN Y0 (.inl Yx) rv6 (fun s7 J7 => hQ' s7 J7) (.inr Yx)
    refine hst1 _ fun s7 J7 => ?_
    have h10 := hif' _ s7 (some v :: σ) H6 _ J7 hst
    rw [Yprog, Yw, YA, Yxe] at h10
    refine thn h10 fun b s8 ⟨H8, J8, q8⟩ => ?_
    have again : ∀ {s9 : Shared} {H9 : Hp} {ys' : List V} {its' : Array Value} {n' : Nat}, Inv Y [] (some v :: σ) H9 s9 → (∀ b ∈ fp, H9 b = none ∧ ∀ o, s6.heap.get? b = some o → s9.heap.get? b = some o) → H9 D = none →
        s9.heap.get? D = some { cls := .type "list", data := .seq its' n' } → Vals ys' its'.toList → (∃ m', m' < m ∧ W (i + 1) m' ys' H9) →
        ∃ m', m' < m ∧ ∃ i ys σ0 H' its n, Inv Y [(D, { cls := .type "list", data := .seq its n })] (σ0 :: σ) H' s9 ∧ tn i s9.heap ∧ (∀ b ∈ fp, H' b = none) ∧ Vals ys its.toList ∧ W i m' ys H' := fun {s9 H9 ys' its' n'} J9 hfp9 hD9 eD9 rv9 hw9 => by
      obtain ⟨m', hm, w9⟩ := hw9
      exact ⟨m', hm, i + 1, ys', some v, H9, its', n', pinD J9 hD9 eD9, T.keep _ _ _ st6 (fun b hb o e => (hfp9 b hb).2 o e), fun b hb => (hfp9 b hb).1, rv9, w9⟩
    have pinF : ∀ {σ9 : St} {H9 : Hp} {s9 : Shared}, Inv Y ([(D, { cls := .type "list", data := .seq its n })] ++ pinsAt fp s6.heap) σ9 H9 s9 → ∀ b ∈ fp, H9 b = none ∧ ∀ o, s6.heap.get? b = some o → s9.heap.get? b = some o := fun {σ9 H9 s9} J9 b hb => by
      obtain ⟨o, eo, _⟩ := T.obj _ _ st6 b hb
      have p := J9.pin (b, o) (List.mem_append_right _ (List.mem_append_right _ (mem_pinsAt hb eo)))
      exact ⟨p.2.1, fun o' e' => by rw [eo] at e'; cases e'; exact p.1⟩
    have pinL : ∀ {σ9 : St} {H9 : Hp} {s9 : Shared}, Inv Y ([(D, { cls := .type "list", data := .seq its n })] ++ pinsAt fp s6.heap) σ9 H9 s9 → s9.heap.get? D = some { cls := .type "list", data := .seq its n } ∧ H9 D = none := fun {σ9 H9 s9} J9 => by
      have p := J9.pin (D, { cls := .type "list", data := .seq its n }) (List.mem_append_right _ (List.mem_append_left _ (by simp)))
      exact ⟨p.1, p.2.1⟩
    cases b with
    | false =>
      show ∃ m', m' < m ∧ _
      have q8' : ∃ m', m' < m ∧ W (i + 1) m' ys H8 := q8
      obtain ⟨eD8, hD8⟩ := pinL J8
      exact again (J8.pins_of fun p hp => absurd hp (by simp)) (pinF J8) hD8 eD8 rv q8'
    | true =>
      show wpAny _ _ _ _ _ _
      have q8' : te (some v :: σ) H8 fun y H3 => ∃ m', m' < m ∧ W (i + 1) m' (ys ++ [y]) H3 := q8
      have h11 := he' _ s8 (some v :: σ) H8 _ J8 q8'
      rw [Yprog, Yw, YA, Yxe] at h11
      refine thn h11 fun yv s9 ⟨y, H9, J9, ry, q9⟩ => ?_
      obtain ⟨eD9, hD9⟩ := pinL J9
      have hz : its.size ≤ sizeLine := by have := rv.length; simp only [Array.length_toList] at this; omega
      refine wpAny_list_append_plain (hsz := hz) ⟨n, eD9⟩ fun h' hl' hsb' => ?_
      obtain ⟨n', eD'⟩ := hl'
      have J9' : Inv Y [] (some v :: σ) H9 s9 := J9.pins_of fun p hp => absurd hp (by simp)
      obtain ⟨g0, g1, g2, g3, g4, g5⟩ := DY hD9
      have J10 : Inv Y [] (some v :: σ) H9 { s9 with heap := h' } := J9'.turned (t' := s9.toks) (fun b o hb e => Heap.SameBut.keeps hsb' hb e) g0 g1 g3 g4 g5
      refine again J10 (fun b hb => ?_) hD9 eD' (by simpa using rv.append (Vals.cons' ry)) q9
      have p9 := pinF J9 b hb
      exact ⟨p9.1, fun o e => Heap.SameBut.keeps hsb' (fun z => Dfp (z ▸ hb)) (p9.2 o e)⟩
theorem comp_core {x : Str} {px pos : Pos} {scope : Scope} {elt iter : Expr} {ifs : List Expr} {tc : TT} {te : TE} {pins : List (Addr × Obj)} {σ : St} {H₂ : Hp} {s₂ : Shared} {it : Addr} {fp : List Addr} {tn : Nat → Heap → Prop} {J : It} {fin : List V → Hp → Prop}
    {W : Nat → Nat → List V → Hp → Prop} {RR : Value → Addr → Result → Shared → Prop} {E : Value → Shared → Prop}
    (ok : CompOk scope X.env.scope X.N x) (hc : X.calm = true) (hif : ∀ s H ex, PIfs (cxComp X x scope s H ex) ifs tc) (he : ∀ s H ex, PE (cxComp X x scope s H ex) elt te)
    (I2 : Inv X pins σ H₂ s₂) (T : Turn X.prog X.w X.K (.Name x px) J fp it tn) (st : tn 0 s₂.heap) (f2 : ∀ b ∈ fp, FpOk X pins H₂ b) (w0 : ∃ m, W 0 m [] H₂) (hW : CompW J tc te σ fin W)
    (hRR : ∀ D C ys H' s', H' D = none → fin ys H' → Inv X pins σ (upd H' D (.lst ys)) s' → FpOk X pins (upd H' D (.lst ys)) C → (∃ m, s'.heap.Ns C m) → RR (.ref D) C (.ok .next) s') :
    wpAny (model X.prog X.w) X.A (newList []) (fun acc s₃ => wpAny (model X.prog X.w) X.A (newFunctionEnv scope X.env.globals (closL scope.names X.env.cells []) [] X.env.qual none .none (some X.env)) (fun cenv s₄ =>
      codeAny (model X.prog X.w) X.A (.compStart (.ListComp elt [⟨.Name x px, iter, ifs, 0⟩] scope pos) 0 (.ref it) acc { cenv with scope := relabel scope X.env }) (RR acc cenv.locals) s₄) E s₃) E s₂ := by
  refine wpAny_newObj_type (wpAny_newFunctionEnv ok.nocell (by intro y hy; simp at hy) (fun h₁ hns₁ hsb₁ => ?_) ok.kind)
  have I3 : Inv X pins σ H₂ { s₂ with heap := s₂.heap.push { cls := .type "list", dict := none, data := .seq ([] : List Value).toArray } } := I2.kept (t' := s₂.toks) fun b o e => Heap.get?_push_of_some _ e
  have keep31 : ∀ b o, (s₂.heap.push { cls := .type "list", dict := none, data := .seq ([] : List Value).toArray }).get? b = some o → h₁.get? b = some o := fun b o e => Heap.SameBut.keeps hsb₁ (Nat.ne_of_lt (Heap.lt_size e)) (Heap.get?_push_of_some _ e)
  have keep23 : ∀ b o, s₂.heap.get? b = some o → (s₂.heap.push { cls := .type "list", dict := none, data := .seq ([] : List Value).toArray }).get? b = some o := fun b o e => Heap.get?_push_of_some _ e
  have hDfresh : H₂ s₂.heap.objs.size = none := I2.hok.fresh (Nat.le_refl _)
  have loop := comp_loop (RR := RR) (s₃ := { s₂ with heap := s₂.heap.push { cls := .type "list", dict := none, data := .seq ([] : List Value).toArray } }) (h₁ := h₁) (tk := s₂.toks + ([] : List (Str × Value)).length) (iter := iter) (pos := pos)
    ok hc hif he I3 T (T.keep 0 _ _ st fun b _ o e => keep23 b o e) f2 w0 hW hDfresh (I2.fpOk (Nat.le_refl _) hDfresh) I2.sz (Heap.get?_push_size _ rfl) (fun hb => by
      obtain ⟨o, e, _⟩ := T.obj 0 _ st _ hb
      exact Nat.lt_irrefl _ (Heap.lt_size e)) (by simpa using hns₁) keep31 hRR
  exact codeAny_compStart_list loop (T.self _ 0 _ _ _ (T.keep 0 _ _ st fun b _ o e => keep31 b o (keep23 b o e)) loop)
def tComp (wi : TI) (tc : TT) (te : TE) : TE := fun σ H Q => wi σ H fun J H1 => ∃ W : Nat → Nat → List V → Hp → Prop, (∃ m, W 0 m [] H1) ∧ CompW J tc te σ (fun ys H2 => ∀ p, H2 p = none → Q (.ref p) (upd H2 p (.lst ys))) W
theorem pe_comp {x : Str} {px pos : Pos} {scope : Scope} {elt iter : Expr} {ifs : List Expr} {wi : TI} {tc : TT} {te : TE} (ok : compOk scope X.env.scope X.N x = true) (hc : X.calm = true) (hi : PI X (.Name x px) iter wi)
    (hif : ∀ s H ex, PIfs (cxComp X x scope s H ex) ifs tc) (he : ∀ s H ex, PE (cxComp X x scope s H ex) elt te) (hs : ∀ v, foldedSetIterable iter X.env v = pure v := by intro _; rfl) :
    PE X (.ListComp elt [⟨.Name x px, iter, ifs, 0⟩] scope pos) (tComp wi tc te) := by
  intro pins s σ H Q I h
  have ok' := compOk_iff ok
  have hfree : ∀ y ∈ scope.names, y.2 = .free → ∃ c, X.env.cells.lookup y.1 = some c := fun y hy e => I.ok.has y.1 (ok'.free y hy e)
  rw [eval_ListComp]
  refine wpAny_comprehension_free (use := none) rfl hs (closure_is hfree) ok'.kind ok'.names (thn (hi pins s σ H _ I h) fun v s1 h1 => thn h1 fun itv s2 h2 => ?_)
  obtain ⟨it, fp, tn, J, H2, e, I2, T, st2, f2, W, w0, hW⟩ := h2
  subst e
  refine comp_core (RR := fun acc C => compPost (model X.prog X.w) X.A X.xe none (EP X pins σ Q) acc C) ok' hc hif he I2 T st2 f2 w0 hW fun D C ys H' s' hD fin I' fC hm => ?_
  obtain ⟨m, hm⟩ := hm
  refine ⟨m, hm, fun h' hsb => ?_⟩
  obtain ⟨g0, g1, g2, g3, g4, g5⟩ := fC
  exact ⟨.ref D, _, I'.turned (t' := s'.toks) (fun b o hb e => Heap.SameBut.keeps hsb hb e) g0 g1 g3 g4 g5, rfl, fin D hD⟩
def tCompS (i : Nat) (wi : TI) (tc : TT) (te : TE) : TS := fun D σ H => wi σ H fun J H1 => ∃ W : Nat → Nat → List V → Hp → Prop, (∃ m, W 0 m [] H1) ∧ CompW J tc te σ (fun ys H2 => ∀ p, H2 p = none → D.nx (σ.set i (some (.ref p))) (upd H2 p (.lst ys))) W
theorem ps_comp {i : Nat} {y x : Str} {py px pos spos : Pos} {scope : Scope} {elt iter : Expr} {ifs : List Expr} {wi : TI} {tc : TT} {te : TE} (hN : X.N.Nodup) (hiy : X.N[i]? = some y) (hy : X.env.scope.names.lookup y = some .local)
    (ok : compOk scope X.env.scope X.N x = true) (hc : X.calm = true) (hi : PI X (.Name x px) iter wi)
    (hif : ∀ s H ex, PIfs (cxComp X x scope s H ex) ifs tc) (he : ∀ s H ex, PE (cxComp X x scope s H ex) elt te)
    (hsw : swapsWith (.ListComp elt [⟨.Name x px, iter, ifs, 0⟩] scope pos) (some (.Name y py)) spos.line X.env = pure true := by rfl) (hs : ∀ v, foldedSetIterable iter X.env v = pure v := by intro _; rfl) :
    PS X (.Assign [.Name y py] (.ListComp elt [⟨.Name x px, iter, ifs, 0⟩] scope pos) spos) (tCompS i wi tc te) := by
  intro pins s σ H Dn I h
  have ok' := compOk_iff ok
  have hfree : ∀ y ∈ scope.names, y.2 = .free → ∃ c, X.env.cells.lookup y.1 = some c := fun y hy e => I.ok.has y.1 (ok'.free y hy e)
  rw [exec_Assign_Name_used _ _ _ _ hsw]
  refine wpAny_bind (wpAny_standAt (wpAny_bind ?_))
  show wpAny _ X.A (do let _ ← comprehension (.ListComp elt [⟨.Name x px, iter, ifs, 0⟩] scope pos) scope X.env _ (newList []) false (eval iter X.env) (some (assign (.Name y py) X.env))) _ _ s
  refine wpAny_bind (wpAny_mono (wpAny_comprehension_free (use := some (assign (.Name y py) X.env)) (Q := fun _ s' => SP X pins Dn .next s') rfl hs (closure_is hfree) ok'.kind ok'.names
    (thn (hi pins s σ H _ I h) fun v s1 h1 => thn h1 fun itv s2 h2 => ?_)) (fun _ s' hq => wpAny_pure (wpAny_pure hq)) fun _ _ e => e)
  obtain ⟨it, fp, tn, J, H2, e, I2, T, st2, f2, W, w0, hW⟩ := h2
  subst e
  refine comp_core (RR := fun acc C => compPost (model X.prog X.w) X.A X.xe (some (assign (.Name y py) X.env)) (fun _ s' => SP X pins Dn .next s') acc C) ok' hc hif he I2 T st2 f2 w0 hW fun D C ys H' s' hD fin I' fC hm => ?_
  obtain ⟨m, hm⟩ := hm
  show wpAny _ X.A (assign (.Name y py) X.env (.ref D)) _ _ _
  obtain ⟨g0, g1, g2, g3, g4, g5⟩ := fC
  refine wpAny_assign_Name (store_ok2 (i := i) (v := .ref D) I' hN hiy (.inl hy) rfl (fun s'' I'' hch => ?_) (.inr hy))
  obtain ⟨a, hsb, ha⟩ := hch
  have hCa : C ≠ a := by
    rcases ha with z | z
    · rw [z]; exact g1
    · exact fun z' => g4 _ _ z z'.symm
  refine ⟨m, hm.sameBut hsb hCa, fun h' hsb' => ?_⟩
  exact ⟨_, _, I''.turned (t' := s''.toks) (fun b o hb e => Heap.SameBut.keeps hsb' hb e) g0 g1 g3 g4 g5, fin D hD⟩
end
end L2
set_option Elab.async false
set_option linter.all false
set_option maxRecDepth 100000
namespace L2
open PySem PySem.Spec PyProof.Rows
theorem ObjOk.there {P : Program} {w : World} {H : Hp} {h : Heap} {a : Addr} {o : HO} (x : ObjOk P w H h a o) : ∃ ob, h.get? a = some ob := by
  cases o with
  | lst xs => obtain ⟨_, _, _, _, e⟩ := x; exact ⟨_, e⟩
  | tup xs => obtain ⟨_, _, _, ob, e, _⟩ := x; exact ⟨_, e⟩
  | dK kvs => obtain ⟨_, _, _, _, o, _, _, e, _⟩ := x; exact ⟨_, e⟩
  | dT kvs => obtain ⟨_, _, _, _, o, _, _, e, _⟩ := x; exact ⟨_, e⟩
  | set S n => obtain ⟨o, _, _, _, e, _⟩ := x; exact ⟨_, e⟩
  | ins C dx fs => obtain ⟨_, _, _, e, _⟩ := x; exact ⟨_, e⟩
  | own y => obtain ⟨_, e⟩ := x; exact ⟨_, e⟩
  | xd fs => obtain ⟨_, ⟨_, _, _, e, _⟩, _⟩ := x; exact ⟨_, e⟩
  | rng lo hi => obtain ⟨_, _, _, e⟩ := x; exact ⟨_, e⟩
  | frz ob u => obtain ⟨e, _⟩ := x; exact ⟨_, e⟩
  | tbl ps => exact ⟨_, show h.get? a = some _ from x⟩
  | met f y => exact ⟨_, show h.get? a = some _ from x⟩
  | ext φ => obtain ⟨_, e, _⟩ := x; exact e
structure Fly (outer : List Env) (H' : Hp) (h0 : Heap) (ea C : Addr) (h : Heap) : Prop where
  free : H' ea = none
  new : h0.get? ea = none
  fl : ∃ (B : Heap) (t : Addr), Heap.FlyingW B outer ea (.ref C) (.ref t) h ∧ ∀ b o, h.get? b = some o → (H' b ≠ none ∨ ∃ o', h0.get? b = some o') → b ∉ frs outer → B.get? b = some o
def CXE (P : Program) (w : World) : CXT := fun outer H s E e s' => ∃ ea C H', e = .ref ea ∧ s'.os = s.os ∧ AllBare s'.gens ∧ Un (frs outer) [] H H' s.heap s'.heap ∧ HOk P w H' s'.heap ∧ Fly outer H' s.heap ea C s'.heap ∧ E (.ref C) none H'
section
variable {P : Program} {w : World} {K : PySem.W.Frag} {mg : Str → Option Value} {base : Heap} {N : List Str} {qual : Str} {scope : Scope} {f : Addr} {cd : Value} {A : Around} {outer : List Env} {s0 : Shared} {H0 : Hp} {E : XK}
theorem raise_ok {pins : List (Addr × Obj)} {σ : St} {H : Hp} {s : Shared} {h' : Heap} {e C : Addr} {vs : List Value} (I : Inv (cxOf (CXE P w) P w K mg base N qual scope f cd A outer s0 H0 E) pins σ H s)
    (hx : Heap.MadeExcOf s.heap h' e (.ref C) vs) (hE : E (.ref C) none H) : (cxOf (CXE P w) P w K mg base N qual scope f cd A outer s0 H0 E).xe (.ref e) { s with heap := h' } := by
  have hfrs : ∀ b, b ∈ frs (envOfC qual scope s0.heap.objs.size f cd :: outer) → b = s0.heap.objs.size ∨ b ∈ frs outer := fun b hb => List.mem_cons.mp (I.stkSub b hb)
  have hB : ∀ b o, s.heap.get? b = some o → b ∉ frs (envOfC qual scope s0.heap.objs.size f cd :: outer) → (PySem.W.hideAll s.heap (frs (envOfC qual scope s0.heap.objs.size f cd :: outer))).get? b = some o := fun b o e n => PySem.W.hideAll_get _ e n
  show wpAny (model P w) (A.deeper (envOfC qual scope s0.heap.objs.size f cd)) (leaving (envOfC qual scope s0.heap.objs.size f cd) (.ref e)) (fun _ s'' => CXE P w outer H0 s0 E (.ref e) s'') (fun e' s'' => CXE P w outer H0 s0 E e' s'') { s with heap := h' }
  refine wpAny_leaves_madeW (base := PySem.W.hideAll s.heap (frs (envOfC qual scope s0.heap.objs.size f cd :: outer))) (h := s.heap) I.ok.frames rfl (fun b o q => PySem.W.of_hideAll _ q)
    (PySem.W.funFrames_hide I.stack fun env he a ha => List.mem_filterMap.mpr ⟨env, he, ha⟩) hx fun h'' t fl _ _ sm => ?_
  have new : s.heap.get? e = none := hx.new
  have sm' : s.heap.UpToSlots h'' := (Heap.UpToSlots.of_keeps hx.keeps).trans sm
  have stays := fl.1
  have keepB : ∀ b o, s.heap.get? b = some o → b ∉ frs (envOfC qual scope s0.heap.objs.size f cd :: outer) → h''.get? b = some o := fun b o q n => stays b o (hB b o q n)
  have notL : ∀ b o, s0.heap.get? b = some o → b ∉ frs outer → b ∉ frs (envOfC qual scope s0.heap.objs.size f cd :: outer) := fun b o q n hb => by
    rcases hfrs b hb with z | z
    · exact Nat.ne_of_lt (Heap.lt_size q) z
    · exact n z
  have trk : ∀ b u, H b = some u → b ∉ frs (envOfC qual scope s0.heap.objs.size f cd :: outer) := fun b u q hb => by
    have := I.stkFree b hb
    rw [q] at this; cases this
  have there0 : ∀ b o, s0.heap.get? b = some o → ∃ o', s.heap.get? b = some o' := fun b o q => I.base.there b o q (by show b ∉ []; simp)
  refine ⟨e, C, H, rfl, I.os, I.bare, ⟨fun b o q n hb _ => ?_, fun b o q n hb _ => ?_, fun b o q n hx' => I.base.free b o q n (by show b ∉ []; simp), fun b o q _ => ?_, I.base.tups, I.base.frzs, I.base.tbls⟩, fun a o q => ?_, ⟨?_, ?_, ?_⟩, hE⟩
  · exact keepB b o (I.base.keep b o q n hb (by show b ∉ []; simp)) (notL b o q hb)
  · obtain ⟨sl, e1⟩ := I.base.slot b o q n hb (by show b ∉ []; simp)
    obtain ⟨_, o', ho', hd⟩ := I.funs.mem hb
    rw [e1] at ho'; cases ho'
    obtain ⟨sl', e2⟩ := sm' b _ e1 hd
    exact ⟨sl', e2⟩
  · obtain ⟨o', e1⟩ := there0 b o q
    by_cases hb : b ∈ frs (envOfC qual scope s0.heap.objs.size f cd :: outer)
    · obtain ⟨_, o2, ho2, hd⟩ := I.stack.mem hb
      obtain ⟨sl', e2⟩ := sm' b _ ho2 hd
      exact ⟨_, e2⟩
    · exact ⟨o', keepB b o' e1 hb⟩
  · refine (I.hok a o q).stay (fun b u hb z => keepB b u z ?_) (fun _ z => z) fun _ _ z => z
    rcases hb with rfl | hb
    · exact trk b o q
    · exact trk b _ hb
  · cases q : H e with
    | none => rfl
    | some o =>
      obtain ⟨ob, z⟩ := (I.hok e o q).there
      rw [new] at z; cases z
  · cases q : s0.heap.get? e with
    | none => rfl
    | some o =>
      obtain ⟨ob, z⟩ := there0 e o q
      rw [new] at z; cases z
  · refine ⟨_, t, fl, fun b o q hb n => ?_⟩
    have key : ∃ o', s.heap.get? b = some o' ∧ b ∉ frs (envOfC qual scope s0.heap.objs.size f cd :: outer) := by
      rcases hb with z | ⟨o', z⟩
      · cases r : H b with
        | none => exact absurd r z
        | some u =>
          obtain ⟨ob, y⟩ := (I.hok b u r).there
          exact ⟨ob, y, trk b u r⟩
      · obtain ⟨o2, y⟩ := there0 b o' z
        exact ⟨o2, y, notL b o' z n⟩
    obtain ⟨o', y, n'⟩ := key
    have := keepB b o' y n'
    rw [q] at this; cases this
    exact hB b o y n'
end
structure ErrCls (K : PySem.W.Frag) (C : Addr) : Prop where
  ex : PySem.W.excIn K C [.type "ValueError", .type "Exception", .type "BaseException", .type "object"] "ValueError.__new__" = true
theorem ErrCls.obj {K : PySem.W.Frag} {C : Addr} (c : ErrCls K C) {h : Heap} (X : K.In h) : ∃ tl N nm q bs hdct sn sub ab col dd k0 k1 k2 k3 k5 mN, h.get? C = some (excClassObj nm q C N bs tl hdct sn sub ab col dd k0 k1 k2 k3 k5 "ValueError.__new__") ∧ h.Ns N mN ∧ mN "__init__" = none ∧
    OwnTail h [.type "ValueError", .type "Exception", .type "BaseException", .type "object"] tl := by
  have q := c.ex
  unfold PySem.W.excIn at q
  split at q
  · rename_i dd cd sl ho
    split at q
    · rename_i C' bm k0 k1 k2 k3 n k5 hm hs
      simp only [Bool.and_eq_true, beq_iff_eq, Bool.not_eq_true'] at q
      obtain ⟨⟨⟨⟨⟨rfl, rfl⟩, hdel⟩, ht⟩, hok⟩, hni⟩ := q
      obtain ⟨nm, bs, mro, ns, qn, hd, sn, sub, ab, col, del⟩ := cd
      dsimp only at hm hdel hok hni
      subst hm hdel
      have hsl : sl = #[k0, k1, k2, k3, some (.builtin "ValueError.__new__"), k5] := by
        obtain ⟨l⟩ := sl
        simp only at hs
        rw [hs]
      subst hsl
      exact ⟨bm, ns, nm, qn, bs, hd, sn, sub, ab, col, dd, k0, k1, k2, k3, k5, _, X _ _ ho, .of_isNs (PySem.W.isNs_of_in X hok), PySem.W.nsMap_none_of_in X hok hni, PySem.W.tail_of_in X ht⟩
    · cases q
  · cases q
def tRaise (t : TA) (C : Addr) (E : XK) : TS := fun _ σ H => t σ H fun vs H1 => vs.length ≤ sizeLine ∧ E (.ref C) none H1
section
variable {P : Program} {w : World} {K : PySem.W.Frag} {mg : Str → Option Value} {base : Heap} {N : List Str} {qual : Str} {scope : Scope} {f : Addr} {cd : Value} {A : Around} {outer : List Env} {s0 : Shared} {H0 : Hp} {E : XK}
theorem ps_raise {x : Str} {np cpos pos : Pos} {e₀ : Expr} {rest : List Expr} {t : TA} {C : Addr} (c : ErrCls K C) (hg : Gl (cxOf (CXE P w) P w K mg base N qual scope f cd A outer s0 H0 E) x) (hm : mg x = some (.ref C)) (hh : A.handled = none)
    (ha : PA (cxOf (CXE P w) P w K mg base N qual scope f cd A outer s0 H0 E) (e₀ :: rest) t) (hd : (x == ("__debug__" : Str)) = false := by decide)
    (he : starEach (e₀ :: rest) (envOfC qual scope s0.heap.objs.size f cd) = (false, eval e₀ (envOfC qual scope s0.heap.objs.size f cd)) :: starEach rest (envOfC qual scope s0.heap.objs.size f cd) := by rfl)
    (hplain : (backTo cpos (starEach rest (envOfC qual scope s0.heap.objs.size f cd))).any (·.1) = false := by rfl) :
    PS (cxOf (CXE P w) P w K mg base N qual scope f cd A outer s0 H0 E) (.Raise (some (.Call (.Name x np) (e₀ :: rest) [] cpos)) none pos) (tRaise t C E) := by
  intro pins s σ H D I h
  obtain ⟨tl, Na, nm, q, bs, hdct, sn, sub, ab, col, dd, k0, k1, k2, k3, k5, mN, hC, hN, hni, T⟩ := c.obj I.mod.kin
  refine wpAny_Raise_call_subU (C := C) (nm := nm) (q := q) (N := Na) (bs := bs) (bm := tl) (hdct := hdct) (sn := sn) (sub := sub) (ab := ab) (col := col) (dd := dd) (k0 := k0) (k1 := k1) (k2 := k2) (k3 := k3) (k5 := k5)
    PySem.F.excBase_ValueError (by decide) PySem.F.excBase_ValueError (mN := mN) (T.hasType PySem.F.excBase_ValueError.hasBase) hh (by
      show (backTo cpos (starEach (e₀ :: rest) (envOfC qual scope s0.heap.objs.size f cd))).any (·.1) = false
      rw [he]; show (false || (backTo cpos (starEach rest (envOfC qual scope s0.heap.objs.size f cd))).any (·.1)) = false; rw [hplain]; rfl) hni (ld_glob I hg hm ⟨rfl, ?_⟩ hd)
  have h2 := ha cpos pins s σ H _ I h
  show wpAny (model P w) _ (evalArgs (.ref C) true (backTo cpos (starEach (e₀ :: rest) (envOfC qual scope s0.heap.objs.size f cd))) []) _ _ s
  have h3 : wpAny (model P w) (A.deeper (envOfC qual scope s0.heap.objs.size f cd)) (spliced (backTo cpos (starEach (e₀ :: rest) (envOfC qual scope s0.heap.objs.size f cd)))) _ _ s := h2
  rw [he] at h3 ⊢
  refine Calls.evalArgs_plain (wpAny_mono h3 (fun vs s₂ h₂ => ?_) fun _ _ y => y)
  obtain ⟨xs, H1, I1, r, hz, hE⟩ := h₂
  have keep : ∀ b o, base.get? b = some o → s₂.heap.get? b = some o := I1.bk
  exact ⟨rfl, by rw [← r.length]; exact hz, keep _ _ hC, hN.keeps keep, T.keeps keep, fun h' e hx => raise_ok I1 hx hE⟩
end
section
variable {X : Cx}
def XP (X : Cx) (pins : List (Addr × Obj)) (Ex : St → Value → Hp → Prop) (ev : Value) (s' : Shared) : Prop := ∃ σ H s, Inv X pins σ H s ∧ CXE X.prog X.w X.stack H s (fun c _ H' => Ex σ c H') ev s'
variable {k : Nat} {f C : Addr} {fd : FuncData} {ps : List Str} {sp : Sp} {dvs : List V} {ds : List Value} {x : Str} {p pos : Pos} {e : Expr} {es : List Expr} {t : TA} {CX : CXT} {E : XK}
end
end L2
namespace L2
open PySem PySem.Spec PyProof.Rows
section
variable {X : Cx}
theorem land {pins : List (Addr × Obj)} {σ : St} {H H' : Hp} {s s' s'' : Shared} {B : Heap} (I : Inv X pins σ H s) (os : s'.os = s.os) (un : Un (frs X.stack) [] H H' s.heap s'.heap) (hok : HOk X.prog X.w H' s'.heap)
    (KB : ∀ b o, s'.heap.get? b = some o → (H' b ≠ none ∨ ∃ o', s.heap.get? b = some o') → b ∉ frs X.stack → B.get? b = some o) (st : B.StaysIn s''.heap) (sm : s'.heap.UpToSlots s''.heap) (os'' : s''.os = s'.os) (bare : AllBare s''.gens) : Inv X pins σ H' s'' := by
  have fr : ∀ b ∈ frs X.stack, ∃ o sl, s.heap.get? b = some o ∧ (∀ vs, o.data ≠ .fields vs) ∧ H b = none ∧ s'.heap.get? b = some { o with slots := sl } ∧ H' b = none := fun b hb => by
    obtain ⟨_, o, ho, hd⟩ := I.stack.mem hb
    have hn := I.stkFree b hb
    obtain ⟨sl, e⟩ := un.slot b o ho hn hb (by simp)
    exact ⟨o, sl, ho, hd, hn, e, un.free b o ho hn (by simp)⟩
  refine I.call' (os''.trans os) (ch := []) ⟨fun b o e n hb hx => ?_, fun b o e n hb hx => ?_, un.free, fun b o e hx => ?_, un.tups, un.frzs, un.tbls⟩ (fun a o e => ?_) bare (fun b hb => absurd hb (by simp))
  · exact st b o (KB b o (un.keep b o e n hb hx) (.inr ⟨o, e⟩) hb)
  · obtain ⟨o1, sl, e1, hd, _, e2, _⟩ := fr b hb
    rw [e] at e1; cases e1
    obtain ⟨sl', e3⟩ := sm b _ e2 hd
    exact ⟨sl', e3⟩
  · by_cases hb : b ∈ frs X.stack
    · obtain ⟨o1, sl, e1, hd, _, e2, _⟩ := fr b hb
      obtain ⟨sl', e3⟩ := sm b _ e2 hd
      exact ⟨_, e3⟩
    · obtain ⟨o', e1⟩ := un.there b o e hx
      exact ⟨o', st b o' (KB b o' e1 (.inr ⟨o, e⟩) hb)⟩
  · have nf : ∀ b u, H' b = some u → b ∉ frs X.stack := fun b u q hb => by
      obtain ⟨_, _, _, _, _, _, z⟩ := fr b hb
      rw [q] at z; cases z
    refine (hok a o e).stay (fun b u hb q => ?_) (fun _ q => q) fun _ _ q => q
    rcases hb with rfl | hb
    · exact st b u (KB b u q (.inl (by rw [e]; simp)) (nf b o e))
    · exact st b u (KB b u q (.inl (by rw [hb]; simp)) (nf b _ hb))
structure Air (X : Cx) (pins : List (Addr × Obj)) (σ : St) (H' : Hp) (ea C : Addr) (s'' : Shared) : Prop where
  ex : ∃ (H : Hp) (s s' : Shared) (B : Heap) (t : Addr), Inv X pins σ H s ∧ s'.os = s.os ∧ Un (frs X.stack) [] H H' s.heap s'.heap ∧ HOk X.prog X.w H' s'.heap ∧
    (∀ b o, s'.heap.get? b = some o → (H' b ≠ none ∨ ∃ o', s.heap.get? b = some o') → b ∉ frs X.stack → B.get? b = some o) ∧ Heap.FlyingW B X.stack ea (.ref C) (.ref t) s''.heap ∧ s'.heap.UpToSlots s''.heap ∧ s''.os = s'.os ∧ AllBare s''.gens ∧ s.heap.get? ea = none ∧ H' ea = none
theorem Air.inv {pins : List (Addr × Obj)} {σ : St} {H' : Hp} {ea C : Addr} {s'' : Shared} (a : Air X pins σ H' ea C s'') : Inv X pins σ H' s'' := by
  obtain ⟨H, s, s', B, t, I, os, un, hok, KB, fl, sm, os'', bare, _, _⟩ := a.ex
  exact land I os un hok KB fl.1 sm os'' bare
theorem Air.obj {pins : List (Addr × Obj)} {σ : St} {H' : Hp} {ea C : Addr} {s'' : Shared} (a : Air X pins σ H' ea C s'') : ∃ ob, s''.heap.get? ea = some ob ∧ ob.cls = .ref C := by
  obtain ⟨H, s, s', B, t, I, os, un, hok, KB, fl, sm, os'', bare, _, _⟩ := a.ex
  exact fl.there
theorem Air.free {pins : List (Addr × Obj)} {σ : St} {H' : Hp} {ea C : Addr} {s'' : Shared} (a : Air X pins σ H' ea C s'') : H' ea = none := by
  obtain ⟨H, s, s', B, t, I, os, un, hok, KB, fl, sm, os'', bare, _, z⟩ := a.ex
  exact z
theorem Air.again {pins : List (Addr × Obj)} {σ : St} {H' : Hp} {ea C : Addr} {s'' : Shared} {M : Model} {A : Around} {E : Value → Shared → Prop} {Q : Unit → Shared → Prop} (a : Air X pins σ H' ea C s'')
    (hQ : ∀ h', Air X pins σ H' ea C { s'' with heap := h' } → Q () { s'' with heap := h' }) : wpAny M A (setFlight (.ref ea) none) Q E s'' := by
  obtain ⟨H, s, s', B, t, I, os, un, hok, KB, fl, sm, os'', bare, n1, n2⟩ := a.ex
  exact lands_againW fl fun h' fl' sm' => hQ h' ⟨H, s, s', B, t, I, os, un, hok, KB, fl', sm.trans sm', os'', bare, n1, n2⟩
def ErrO (ea C : Addr) : HO := .ext fun h => ∃ ob, h.get? ea = some ob ∧ ob.cls = .ref C
theorem errO_ok {P : Program} {w : World} {H : Hp} {h : Heap} {ea C : Addr} (e : ∃ ob, h.get? ea = some ob ∧ ob.cls = .ref C) : ObjOk P w H h ea (ErrO ea C) := by
  obtain ⟨ob, e1, e2⟩ := e
  exact ⟨⟨ob, e1, e2⟩, ⟨ob, e1⟩, fun h1 h2 ⟨o, q1, q2⟩ k => ⟨o, k o q1, q2⟩⟩
theorem Inv.track' {pins : List (Addr × Obj)} {σ : St} {H : Hp} {s : Shared} {D : Addr} {o : HO} (I : Inv X pins σ H s) (hn : H D = none) (h0 : X.s₀.heap.get? D = none) (hL : D ≠ X.env.locals)
    (hc : ∀ x c, X.env.cells.lookup x = some c → c ≠ D) (hp : ∀ p ∈ X.pn ++ pins, p.1 ≠ D) (new : ObjOk X.prog X.w (upd H D o) s.heap D o) : Inv X pins σ (upd H D o) s := by
  have ne : ∀ b u, H b = some u → b ≠ D := fun b u e => ne_of_none e hn
  refine ⟨I.ok, I.os, I.bare, ⟨I.base.keep, I.base.slot, fun b u e n hx => ?_, I.base.there, fun b xs e => ?_, fun b u xs e => ?_, fun b ps e => ?_⟩, I.loc, I.cell, ?_, fun x c e => ?_, fun p q => ?_, fun b u e => ?_, I.len⟩
  · rw [upd_ne (fun z => by rw [z, h0] at e; cases e)]
    exact I.base.free b u e n hx
  · have e' := I.base.tups b xs e
    rw [upd_ne (ne b _ e')]; exact e'
  · have e' := I.base.frzs b u xs e
    rw [upd_ne (ne b _ e')]; exact e'
  · obtain ⟨more, e'⟩ := I.base.tbls b ps e
    exact ⟨more, by rw [upd_ne (ne b _ e')]; exact e'⟩
  · rw [upd_ne (Ne.symm hL)]; exact I.free
  · rw [upd_ne (hc x c e)]; exact I.freeC x c e
  · obtain ⟨a1, a2, a3, a4, a5⟩ := I.pin p q
    exact ⟨a1, by rw [upd_ne (hp p q)]; exact a2, a3, a4, a5⟩
  · by_cases hb : b = D
    · subst hb; rw [upd_same] at e; cases e; exact new
    · rw [upd_ne hb] at e
      exact (I.hok b u e).stay (fun c v _ q => q) (fun c q => by rw [upd_ne (ne c _ q)]; exact q) fun c xs q => by rw [upd_ne (ne c _ q)]; exact q
theorem Air.track {pins : List (Addr × Obj)} {σ : St} {H' : Hp} {ea C : Addr} {s'' : Shared} (a : Air X pins σ H' ea C s'') (hex : X.ex = []) : Inv X pins σ (upd H' ea (ErrO ea C)) s'' := by
  have J := a.inv
  have ob := a.obj
  obtain ⟨H, s, s', B, t, I, os, un, hok, KB, fl, sm, os'', bare, n1, n2⟩ := a.ex
  refine J.track' n2 ?_ (fun z => ?_) (fun x c e z => ?_) (fun p hp z => ?_) (errO_ok ob)
  · cases q : X.s₀.heap.get? ea with
    | none => rfl
    | some o =>
      obtain ⟨o', e⟩ := I.base.there ea o q (by rw [hex]; simp)
      rw [n1] at e; cases e
  · obtain ⟨m, ⟨o, _, _, ho, _⟩, _⟩ := I.loc
    rw [← z, n1] at ho; cases ho
  · obtain ⟨v, o, ho, _⟩ := I.cell x c e
    rw [z, n1] at ho; cases ho
  · have e := (I.pin p hp).1
    rw [z, n1] at e; cases e
end
end L2
set_option Elab.async false
set_option linter.all false
set_option maxRecDepth 100000
namespace L2
open PySem PySem.Spec PyProof.Rows
def Its (z : Str) : It := ⟨fun i _ => i < z.cps.size, fun i H x H' => H' = H ∧ ∃ c, z.cps[i]? = some c ∧ x = .str ⟨#[c]⟩, fun i _ => z.cps.size ≤ i⟩
theorem turn_strA {P : Program} {w : World} {K : PySem.W.Frag} {tg : Expr} (z : Str) (t : Tok) (it : Addr) : Turn P w K tg (Its z) [it] it (fun i h => h.IsStrIter it "str_ascii_iterator" z t i) where
  mem := by simp
  obj := fun i h st b hb => by
    have e : b = it := by simpa using hb
    subst e
    obtain ⟨o, e, c, d⟩ := st
    exact ⟨o, e, fun v q => by rw [d] at q; cases q⟩
  keep := fun i h h' st k => by
    obtain ⟨o, e, c, d⟩ := st
    exact ⟨o, k it (by simp) o e, c, d⟩
  item := by
    intro X hP hw hK hc i pins s σ H E I hf st hg
    subst hP hw hK
    obtain ⟨f0, f1, f2, f3, f4, f5⟩ := hf it (by simp)
    have hgi : i < z.cps.size := hg
    refine wpAny_pyNext_ascii_item st (c := z.cps[i]) (by simp [hgi]) fun h' st' sb => ?_
    have I1 : Inv X pins σ H { s with heap := h', toks := s.toks + 1 } := I.turned (fun b o hb e => (sb.2 b hb).trans e) f0 f1 f3 f4 f5
    obtain ⟨o, e, c, d⟩ := id st'
    exact ⟨_, rfl, go_of (s := { s with heap := h', toks := s.toks + 1 }) e c d (by decide) ⟨.str ⟨#[z.cps[i]]⟩, H, I1, ⟨_, rfl⟩, ⟨rfl, z.cps[i], by simp [hgi], rfl⟩, st', fun b hb => (hf b hb).1⟩⟩
  done := by
    intro X hP hw hK hc i pins s σ H E I hf st hg
    subst hP hw hK
    obtain ⟨f0, f1, f2, f3, f4, f5⟩ := hf it (by simp)
    have hgi : z.cps.size ≤ i := hg
    exact wpAny_pyNext_ascii_end (I.ok.hd hc) st (by simp [hgi]) fun h' eb => ⟨rfl, I.turned (t' := s.toks) (fun b o hb e => eb b o hb e) f0 f1 f3 f4 f5⟩
  self := fun _ _ _ _ _ st h => wpAny_pyIter_striter_ascii st h
theorem turn_strW {P : Program} {w : World} {K : PySem.W.Frag} {tg : Expr} (z : Str) (t : Tok) (it : Addr) : Turn P w K tg (Its z) [it] it (fun i h => h.IsStrIter it "str_iterator" z t i) where
  mem := by simp
  obj := fun i h st b hb => by
    have e : b = it := by simpa using hb
    subst e
    obtain ⟨o, e, c, d⟩ := st
    exact ⟨o, e, fun v q => by rw [d] at q; cases q⟩
  keep := fun i h h' st k => by
    obtain ⟨o, e, c, d⟩ := st
    exact ⟨o, k it (by simp) o e, c, d⟩
  item := by
    intro X hP hw hK hc i pins s σ H E I hf st hg
    subst hP hw hK
    obtain ⟨f0, f1, f2, f3, f4, f5⟩ := hf it (by simp)
    have hgi : i < z.cps.size := hg
    refine wpAny_pyNext_wide_item st (c := z.cps[i]) (by simp [hgi]) fun h' st' sb => ?_
    have I1 : Inv X pins σ H { s with heap := h', toks := s.toks + 1 } := I.turned (fun b o hb e => (sb.2 b hb).trans e) f0 f1 f3 f4 f5
    obtain ⟨o, e, c, d⟩ := id st'
    exact ⟨_, rfl, go_of (s := { s with heap := h', toks := s.toks + 1 }) e c d (by decide) ⟨.str ⟨#[z.cps[i]]⟩, H, I1, ⟨_, rfl⟩, ⟨rfl, z.cps[i], by simp [hgi], rfl⟩, st', fun b hb => (hf b hb).1⟩⟩
  done := by
    intro X hP hw hK hc i pins s σ H E I hf st hg
    subst hP hw hK
    obtain ⟨f0, f1, f2, f3, f4, f5⟩ := hf it (by simp)
    have hgi : z.cps.size ≤ i := hg
    exact wpAny_pyNext_wide_end (I.ok.hd hc) st (by simp [hgi]) fun h' eb => ⟨rfl, I.turned (t' := s.toks) (fun b o hb e => eb b o hb e) f0 f1 f3 f4 f5⟩
  self := fun _ _ _ _ _ st h => wpAny_pyIter_striter_wide st h
section
variable {X : Cx} {tg : Expr}
def iStr (te : TE) : TI := fun σ H R => te σ H fun x H1 => ∃ z, x = .str z ∧ R (Its z) H1
theorem pi_str {l : Expr} {te : TE} (hl : PE X l te) : PI X tg l (iStr te) := by
  intro pins s σ H R I h
  refine thn (hl pins s σ H _ I h) fun v s1 ⟨x, H1, I1, r1, q1⟩ => ?_
  obtain ⟨z, e, q⟩ := q1
  subst e
  obtain ⟨t, rfl⟩ := r1
  have fp : ∀ b ∈ [s1.heap.objs.size], FpOk X pins H1 b := fun b hb => by
    have e : b = s1.heap.objs.size := by simpa using hb
    subst e
    exact I1.fpOk (Nat.le_refl _) (I1.hok.fresh (Nat.le_refl _))
  cases ha : z.cps.all (· < 128)
  · exact wpAny_pyIter_wide ha ⟨s1.heap.objs.size, [s1.heap.objs.size], _, _, H1, rfl, I1.kept (t' := s1.toks) fun b o e => Heap.get?_push_of_some _ e, turn_strW z t _, ⟨_, Heap.get?_push_size _ rfl, rfl, rfl⟩, fp, q⟩
  · exact wpAny_pyIter_ascii ha ⟨s1.heap.objs.size, [s1.heap.objs.size], _, _, H1, rfl, I1.kept (t' := s1.toks) fun b o e => Heap.get?_push_of_some _ e, turn_strA z t _, ⟨_, Heap.get?_push_size _ rfl, rfl, rfl⟩, fp, q⟩
def rSlS : V → Option Int → Option Int → Hp → VK → Prop := fun x lo hi H Q => ∃ z, x = .str z ∧ z.length ≤ sizeLine ∧ Q (.str (Txt.slice z lo hi)) H
theorem isPart_opt {u : Value} {o : Option Int} (p : IsPart u o) : ∃ l : Option (Int × Tok), u = partValue l ∧ o = l.map (·.1) := by
  cases p with
  | none => exact ⟨none, rfl, rfl⟩
  | int i t => exact ⟨some (i, t), rfl, rfl⟩
theorem sl_str : SlR X rSlS := by
  intro pins s σ H x v vl vu lo hi sl Q I rx hs pl pu h
  obtain ⟨z, rfl, hz, q⟩ := h
  obtain ⟨t, rfl⟩ := rx
  obtain ⟨l, rfl, rfl⟩ := isPart_opt pl
  obtain ⟨u, rfl, rfl⟩ := isPart_opt pu
  refine ⟨"str", _, F.slot_str_getitem.lookup, typeIs_str _ _ _, wpAny_getItem_str_slice (l := l) (u := u) (st := none) hs rfl ?_⟩
  exact post_val_or_str ⟨Nat.le_trans (Txt.slice_le z _ _) hz, fun t' k => ⟨.str _, H, I.tok _, ⟨_, rfl⟩, q⟩⟩
def repS (z : Str) (n : Int) : Str := if n < 1 then Str.empty else if (n == 1 || z.length == 0) = true then z else ⟨(List.replicate n.toNat z.cps).foldl (· ++ ·) #[]⟩
theorem op_mul_str : OpR X (binaryOp .Mult) (fun x y H Q => ∃ z n, x = .str z ∧ y = .int n ∧ z.length ≤ 1000 ∧ -1000 ≤ n ∧ n ≤ 1000 ∧ Q (.str (repS z n)) H) := by
  intro pins s σ H x y v u Q I rx ry h
  obtain ⟨z, n, rfl, rfl, hz, h1, h2, q⟩ := h
  obtain ⟨t, rfl⟩ := rx
  obtain ⟨t', rfl⟩ := ry
  refine P.mul_str (by rw [decide_eq_false (by omega), decide_eq_false (by omega)]; rfl) (fun hn _ => ?_) (fun hn _ => ?_) ?_
  · have : (1000 : Int) ≤ (2 ^ 63 - 1) / n := by
      rw [Int.le_ediv_iff_mul_le (by omega)]; omega
    omega
  · have : z.length * n.toNat ≤ 1000 * 1000 := Nat.mul_le_mul hz (by omega)
    show decide (z.length * n.toNat > sizeLine) = false
    rw [sizeLine_eq]
    exact decide_eq_false (by omega)
  · unfold repS at q
    by_cases h3 : n < 1
    · rw [if_pos h3] at q ⊢
      exact ⟨by decide, ⟨.str _, H, I.tok _, ⟨_, rfl⟩, q⟩⟩
    · rw [if_neg h3] at q ⊢
      by_cases h4 : (n == 1 || z.length == 0) = true
      · rw [if_pos h4] at q ⊢
        exact ⟨.str _, H, I, ⟨_, rfl⟩, q⟩
      · rw [if_neg h4] at q ⊢
        refine ⟨?_, ⟨.str _, H, I.tok _, ⟨_, rfl⟩, q⟩⟩
        have e : ∀ (k : Nat) (acc : Array Nat), ((List.replicate k z.cps).foldl (· ++ ·) acc).size = acc.size + k * z.cps.size := by
          intro k
          induction k with
          | zero => intro acc; simp
          | succ k ih =>
            intro acc
            rw [List.replicate_succ, List.foldl_cons, ih, Array.size_append, Nat.add_mul, Nat.one_mul]
            omega
        have e2 := e n.toNat #[]
        have hz' : z.cps.size ≤ 1000 := hz
        have : n.toNat * z.cps.size ≤ 1000 * 1000 := Nat.mul_le_mul (by omega) hz'
        show ((List.replicate n.toNat z.cps).foldl (· ++ ·) #[]).size ≤ sizeLine
        rw [e2, sizeLine_eq]
        simp only [List.size_toArray, List.length_nil]
        omega
theorem call_all (hc : X.calm = true) : CallR X (.builtin "all") (fun xs H Q => ∃ (p : Addr) (bs : List Bool), xs = [.ref p] ∧ SqL X.K H p (bs.map V.bl) ∧ Q (.bl (bs.all id)) H) := by
  intro pins s σ H xs us Q I r h
  obtain ⟨p, bs, rfl, hq, q⟩ := h
  obtain ⟨u, rfl, ru⟩ := vals1 r
  cases ru
  obtain ⟨its, rv, pl, hz⟩ := I.list hq
  have hl : its.length = bs.length := by have := rv.length; simpa using this.symm
  have item : ∀ (i : Nat) (v : Value), its[i]? = some v → v = .bool (bs.getD i true) := fun i v e => by
    have hi : i < bs.length := by rw [← hl]; exact (List.getElem?_eq_some_iff.mp e).1
    have hx : (bs.map V.bl)[i]? = some (V.bl bs[i]) := by simp [hi]
    obtain ⟨w', e', rw'⟩ := rv.get hx
    rw [e] at e'; cases e'
    have : bs.getD i true = bs[i] := by simp [List.getD_eq_getElem?_getD, hi]
    rw [this]
    exact rw'
  have hne : p ≠ s.heap.objs.size := fun z => by
    obtain ⟨o, n, e, _⟩ := pl
    exact Nat.lt_irrefl _ (z ▸ Heap.lt_size e)
  refine call_all_walk (wpAny_pyIter_list pl.isList ?_)
  refine ⟨s.heap.objs.size, [s.heap.objs.size, p], [s.heap.objs.size], its.toArray.size, fun i v => its.toArray[i]? = some v, fun i h => h.IsListIter s.heap.objs.size p i ∧ h.IsList p its.toArray, fun i => bs.getD i true, rfl,
    Walks.list (A := X.A.in1) (I.ok.hd hc) _ p hne its.toArray, ⟨⟨_, Heap.get?_push_size _ rfl, rfl, rfl⟩, pl.isList.at fun o e => Heap.get?_push_of_some _ e⟩, fun i v s' Q' E' hP hQ => ?_, fun h' tk kk => ?_⟩
  · have := item i v (by simpa using hP)
    subst this
    exact wpAny_truthy_bool hQ
  · have hb : (List.range its.toArray.size).all (fun i => bs.getD i true) = bs.all id := by
      rw [List.size_toArray, hl]
      apply Bool.eq_iff_iff.mpr
      simp only [List.all_eq_true, List.mem_range, id]
      constructor
      · intro h x hx
        obtain ⟨i, hi, rfl⟩ := List.getElem_of_mem hx
        have := h i hi
        simpa [List.getD_eq_getElem?_getD, hi] using this
      · intro h i hi
        have := h bs[i] (List.getElem_mem hi)
        simpa [List.getD_eq_getElem?_getD, hi] using this
    rw [hb]
    have I1 : Inv X pins σ H { s with heap := h', toks := tk } := I.kept fun b o e => kk b o (fun z => by
      have z' : b = s.heap.objs.size := by simpa using z
      exact Nat.lt_irrefl _ (z' ▸ Heap.lt_size e)) (Heap.get?_push_of_some _ e)
    exact ⟨.bl _, H, I1, rfl, q⟩
theorem strsAre_of {ys : List Str} : ∀ {us : List Value}, Vals (ys.map V.str) us → StrsAre us ys := by
  induction ys with
  | nil => intro us r; rw [List.map_nil] at r; cases r; exact .nil
  | cons n ns ih =>
    intro us r
    rw [List.map_cons] at r
    cases r with
    | cons r1 r2 =>
      obtain ⟨t, e⟩ := r1
      subst e
      exact .cons n t (ih r2)
def rJoin (K : PySem.W.Frag) : V → List V → Hp → VK → Prop := fun x vs H Q => ∃ (sep : Str) (p : Addr) (ys : List Str), x = .str sep ∧ vs = [.ref p] ∧ SqL K H p (ys.map V.str) ∧ (ys.map (·.length)).sum + ys.length * sep.length ≤ 16777216 ∧ Q (.str (Txt.join sep ys)) H
theorem mt_join : MtR X "str.join" (rJoin X.K) := by
  intro pins s σ H x xs v us Q I rx rs h
  obtain ⟨sep, p, ys, rfl, rfl, hq, hz, q⟩ := h
  obtain ⟨t, rfl⟩ := rx
  obtain ⟨u, rfl, ru⟩ := vals1 rs
  cases ru
  obtain ⟨its, rv, pl, _⟩ := I.list hq
  exact join_list pl.isList (by simpa using strsAre_of rv) hz fun t' k => ⟨.str _, H, I.tok _, ⟨_, rfl⟩, q⟩
end
end L2
namespace L2
open PySem PySem.Spec PyProof.Rows PySem.SeqAt
inductive Dt where
  | non | bl (b : Bool) | int (i : Int) | str (x : Str) | tup (ds : List Dt) | lst (ds : List Dt)
mutual
inductive Den (K : PySem.W.Frag) (H : Hp) : V → Dt → Prop
  | non : Den K H .non .non
  | bl (b : Bool) : Den K H (.bl b) (.bl b)
  | int (i : Int) : Den K H (.int i) (.int i)
  | str (x : Str) : Den K H (.str x) (.str x)
  | tup {a : Addr} {xs : List V} {ds : List Dt} (h : H a = some (.tup xs)) (hs : Dens K H xs ds) : Den K H (.ref a) (.tup ds)
  | lst {a : Addr} {xs : List V} {ds : List Dt} (h : SqL K H a xs) (hs : Dens K H xs ds) : Den K H (.ref a) (.lst ds)
inductive Dens (K : PySem.W.Frag) (H : Hp) : List V → List Dt → Prop
  | nil : Dens K H [] []
  | cons {x : V} {d : Dt} {xs : List V} {ds : List Dt} (h : Den K H x d) (t : Dens K H xs ds) : Dens K H (x :: xs) (d :: ds)
end
def flatD : Dt → Option V
  | .non => some .non
  | .bl b => some (.bl b)
  | .int i => some (.int i)
  | .str x => some (.str x)
  | _ => none
mutual
def eqD : Dt → Dt → Bool
  | .tup a, .tup b => eqDs a b
  | .lst a, .lst b => eqDs a b
  | .non, e => match flatD e with | some y => eqV .non y | none => false
  | .bl x, e => match flatD e with | some y => eqV (.bl x) y | none => false
  | .int x, e => match flatD e with | some y => eqV (.int x) y | none => false
  | .str x, e => match flatD e with | some y => eqV (.str x) y | none => false
  | .tup _, _ => false
  | .lst _, _ => false
def eqDs : List Dt → List Dt → Bool
  | [], [] => true
  | a :: as, b :: bs => eqD a b && eqDs as bs
  | [], _ :: _ => false
  | _ :: _, [] => false
end
def mixD : Dt → Dt → Bool
  | .tup _, e => (flatD e).isSome
  | _, _ => false
mutual
def shD : Dt → Dt → Bool
  | .tup a, .tup b => shDs a b
  | .lst a, .lst b => shDs a b
  | .non, e => (flatD e).isSome
  | .bl _, e => (flatD e).isSome
  | .int _, e => (flatD e).isSome
  | .str _, e => (flatD e).isSome
  | .tup _, _ => false
  | .lst _, _ => false
def shDs : List Dt → List Dt → Bool
  | a :: as, b :: bs => (shD a b || mixD a b) && shDs as bs
  | _, _ => true
end
mutual
def depD : Dt → Nat
  | .tup a => depDs a + 1
  | .lst a => depDs a + 1
  | _ => 0
def depDs : List Dt → Nat
  | [] => 0
  | a :: as => max (depD a) (depDs as)
end
theorem Dens.length {K : PySem.W.Frag} {H : Hp} : ∀ {xs : List V} {ds : List Dt}, Dens K H xs ds → xs.length = ds.length
  | _, _, .nil => rfl
  | _, _, .cons _ t => by rw [List.length_cons, List.length_cons, t.length]
theorem Dens.get {K : PySem.W.Frag} {H : Hp} : ∀ {xs : List V} {ds : List Dt} {i : Nat} {x : V}, Dens K H xs ds → xs[i]? = some x → ∃ d, ds[i]? = some d ∧ Den K H x d
  | _, _, _, _, .nil, e => by simp at e
  | _, _, 0, _, .cons h _, e => by simp at e; subst e; exact ⟨_, rfl, h⟩
  | _, _, i + 1, x, .cons _ t, e => by
    obtain ⟨d, h1, h2⟩ := Dens.get (i := i) (x := x) t (by simpa using e)
    exact ⟨d, by simpa using h1, h2⟩
theorem Dens.get' {K : PySem.W.Frag} {H : Hp} : ∀ {xs : List V} {ds : List Dt} {i : Nat} {d : Dt}, Dens K H xs ds → ds[i]? = some d → ∃ x, xs[i]? = some x ∧ Den K H x d
  | _, _, _, _, .nil, e => by simp at e
  | _, _, 0, _, .cons h _, e => by simp at e; subst e; exact ⟨_, rfl, h⟩
  | _, _, i + 1, d, .cons _ t, e => by
    obtain ⟨x, h1, h2⟩ := Dens.get' (i := i) (d := d) t (by simpa using e)
    exact ⟨x, by simpa using h1, h2⟩
theorem Dens.append {K : PySem.W.Frag} {H : Hp} : ∀ {xs ys : List V} {ds es : List Dt}, Dens K H xs ds → Dens K H ys es → Dens K H (xs ++ ys) (ds ++ es)
  | _, _, _, _, .nil, s => s
  | _, _, _, _, .cons h t, s => .cons h (t.append s)
theorem depDs_mem : ∀ {ds : List Dt} {d : Dt}, d ∈ ds → depD d ≤ depDs ds
  | a :: as, d, h => by
    unfold depDs
    rcases List.mem_cons.mp h with e | e
    · rw [e]; exact Nat.le_max_left _ _
    · exact Nat.le_trans (depDs_mem e) (Nat.le_max_right _ _)
theorem shDs_get : ∀ {as bs : List Dt} {i : Nat} {a b : Dt}, shDs as bs = true → as[i]? = some a → bs[i]? = some b → shD a b = true ∨ mixD a b = true
  | x :: as, y :: bs, 0, a, b, h, e1, e2 => by
    simp at e1 e2; subst e1; subst e2
    unfold shDs at h; simp only [Bool.and_eq_true, Bool.or_eq_true] at h; exact h.1
  | x :: as, y :: bs, i + 1, a, b, h, e1, e2 => by
    unfold shDs at h; simp only [Bool.and_eq_true] at h
    exact shDs_get (i := i) h.2 (by simpa using e1) (by simpa using e2)
  | [], _, _, _, _, _, e1, _ => by simp at e1
  | _ :: _, [], _, _, _, _, _, e2 => by simp at e2
def atD (as bs : List Dt) (j : Nat) : Bool := eqD (as.getD j .non) (bs.getD j .non)
theorem range_succ_all (n : Nat) (p : Nat → Bool) : (List.range (n + 1)).all p = (p 0 && (List.range n).all fun j => p (j + 1)) := by
  rw [List.range_succ_eq_map, List.all_cons, List.all_map]
  rfl
theorem eqDs_all : ∀ {as bs : List Dt}, as.length = bs.length → (List.range as.length).all (atD as bs) = eqDs as bs
  | [], [], _ => rfl
  | a :: as, b :: bs, h => by
    have ih := @eqDs_all as bs (by simpa using h)
    rw [List.length_cons, range_succ_all]
    unfold eqDs
    rw [← ih]
    rfl
  | [], _ :: _, h => by simp at h
  | _ :: _, [], h => by simp at h
theorem eqDs_len : ∀ {as bs : List Dt}, as.length ≠ bs.length → eqDs as bs = false
  | [], [], h => absurd rfl h
  | a :: as, b :: bs, h => by
    unfold eqDs
    rw [eqDs_len (as := as) (bs := bs) (fun z => h (by rw [List.length_cons, List.length_cons, z])), Bool.and_false]
  | [], _ :: _, _ => rfl
  | _ :: _, [], _ => rfl
theorem eqDs_min : ∀ {as bs : List Dt}, ((List.range (min as.length bs.length)).all (atD as bs) && as.length == bs.length) = eqDs as bs := by
  intro as bs
  by_cases h : as.length = bs.length
  · rw [← h, Nat.min_self, eqDs_all h]; simp
  · rw [eqDs_len h]; simp [h]
theorem eqV_refl : ∀ {x : V}, flatV x = true → eqV x x = true
  | .non, _ => rfl
  | .bl b, _ => by simp [eqV]
  | .int i, _ => by simp [eqV]
  | .str x, _ => by simp [eqV]
mutual
theorem eqD_refl : ∀ d : Dt, eqD d d = true
  | .non => rfl
  | .bl b => by show eqV (.bl b) (.bl b) = true; exact eqV_refl rfl
  | .int i => by show eqV (.int i) (.int i) = true; exact eqV_refl rfl
  | .str x => by show eqV (.str x) (.str x) = true; exact eqV_refl rfl
  | .tup ds => by unfold eqD; exact eqDs_refl ds
  | .lst ds => by unfold eqD; exact eqDs_refl ds
theorem eqDs_refl : ∀ ds : List Dt, eqDs ds ds = true
  | [] => rfl
  | a :: as => by unfold eqDs; rw [eqD_refl a, eqDs_refl as]; rfl
end
mutual
theorem shD_refl : ∀ d : Dt, shD d d = true
  | .non => rfl
  | .bl _ => rfl
  | .int _ => rfl
  | .str _ => rfl
  | .tup ds => by unfold shD; exact shDs_refl ds
  | .lst ds => by unfold shD; exact shDs_refl ds
theorem shDs_refl : ∀ ds : List Dt, shDs ds ds = true
  | [] => rfl
  | a :: as => by unfold shDs; rw [shD_refl a, shDs_refl as, Bool.true_or]; rfl
end
theorem no_both {X : Cx} {pins : List (Addr × Obj)} {σ : St} {H : Hp} {s : Shared} {a : Addr} {xs ys : List V} (I : Inv X pins σ H s) (h : SqT X.K H a xs) (h' : SqL X.K H a ys) : False := by
  obtain ⟨_, _, ⟨o, e, c, _⟩, _⟩ := I.tuple h
  obtain ⟨_, _, ⟨o', _, e', c', _⟩, _⟩ := I.list h'
  rw [e] at e'; cases e'
  rw [c] at c'; exact absurd c' (by decide)
mutual
theorem Den.inj {X : Cx} {pins : List (Addr × Obj)} {σ : St} {H : Hp} {s : Shared} (I : Inv X pins σ H s) : ∀ {d : Dt} {e : Dt} {x : V}, Den X.K H x d → Den X.K H x e → d = e
  | .tup ds, _, _, .tup h hs, he => by
    cases he with
    | tup h' hs' =>
      have e := I.tuple_inj (SqT.of h) (SqT.of h')
      subst e
      rw [Dens.inj I hs hs']
    | lst h' hs' => exact (no_both I (SqT.of h) h').elim
  | .lst ds, _, _, .lst h hs, he => by
    cases he with
    | lst h' hs' =>
      have e := I.list_inj h h'
      subst e
      rw [Dens.inj I hs hs']
    | tup h' hs' => exact (no_both I (SqT.of h') h).elim
  | .non, _, _, .non, he => by cases he; rfl
  | .bl _, _, _, .bl _, he => by cases he; rfl
  | .int _, _, _, .int _, he => by cases he; rfl
  | .str _, _, _, .str _, he => by cases he; rfl
theorem Dens.inj {X : Cx} {pins : List (Addr × Obj)} {σ : St} {H : Hp} {s : Shared} (I : Inv X pins σ H s) : ∀ {ds es : List Dt} {xs : List V}, Dens X.K H xs ds → Dens X.K H xs es → ds = es
  | [], _, _, .nil, he => by cases he; rfl
  | d :: ds, _, _, .cons h t, he => by
    cases he with
    | cons h' t' => rw [Den.inj I h h', Dens.inj I t t']
end
theorem Dens.getD {K : PySem.W.Frag} {H : Hp} {xs : List V} {ds : List Dt} {us : List Value} {j : Nat} (D : Dens K H xs ds) (r : Vals xs us) (h : j < us.length) : ∃ x, RelV x us[j] ∧ Den K H x (ds.getD j .non) ∧ ds[j]? = some (ds.getD j .non) := by
  have hl := r.length
  have hx : xs[j]? = some xs[j] := by simp [hl, h]
  obtain ⟨u, hu, ru⟩ := r.get hx
  obtain ⟨d, hd, dd⟩ := D.get hx
  have eu : us[j] = u := by
    rw [List.getElem?_eq_getElem h] at hu
    exact Option.some.inj hu
  have ed : ds.getD j .non = d := by rw [List.getD_eq_getElem?_getD, hd]; rfl
  rw [eu, ed]
  exact ⟨_, ru, dd, hd⟩
theorem Den.flat {K : PySem.W.Frag} {H : Hp} {x : V} {d : Dt} {y : V} (h : Den K H x d) (e : flatD d = some y) : x = y ∧ flatV x = true := by
  cases h with
  | non => cases e; exact ⟨rfl, rfl⟩
  | bl b => cases e; exact ⟨rfl, rfl⟩
  | int i => cases e; exact ⟨rfl, rfl⟩
  | str z => cases e; exact ⟨rfl, rfl⟩
  | tup _ _ => cases e
  | lst _ _ => cases e
theorem eqD_flat {d e : Dt} {x y : V} (h1 : flatD d = some x) (h2 : flatD e = some y) : eqD d e = eqV x y := by
  cases d <;> first
    | (cases h1; simp only [eqD, h2])
    | cases h1
theorem shD_flat {d e : Dt} {x : V} (h1 : flatD d = some x) (h : shD d e = true) : ∃ y, flatD e = some y := by
  cases d <;> first
    | (cases h1; unfold shD at h; exact Option.isSome_iff_exists.mp h)
    | cases h1
theorem eqAt_mix {X : Cx} {pins : List (Addr × Obj)} {σ : St} {H : Hp} {s : Shared} (I : Inv X pins σ H s) {d e : Dt} {x y : V} {u v : Value} {A : Around} (hu : A.units < cLine) (hx : Den X.K H x d) (hy : Den X.K H y e) (rx : RelV x u) (ry : RelV y v) (mx : mixD d e = true) : EqAt A s u v (eqD d e) := by
  cases hx with
  | @tup a xs ds h hs =>
    cases rx
    obtain ⟨us, r, ht, _⟩ := I.tuple (SqT.of h)
    cases hy with
    | non => cases ry; exact EqAt.tuple_none ht hu
    | bl b => cases ry; exact EqAt.tuple_bool b ht hu
    | int i => obtain ⟨t, rfl⟩ := ry; exact EqAt.tuple_int i t ht hu
    | str z => obtain ⟨t, rfl⟩ := ry; exact EqAt.tuple_str z t ht hu
    | tup _ _ => cases mx
    | lst _ _ => cases mx
  | _ => cases mx
theorem eqAt_den {X : Cx} {pins : List (Addr × Obj)} {σ : St} {H : Hp} {s : Shared} (I : Inv X pins σ H s) : ∀ (n : Nat) {d e : Dt} {x y : V} {u v : Value} {A : Around}, depD d ≤ n → A.units + n < cLine → Den X.K H x d → Den X.K H y e → RelV x u → RelV y v → shD d e = true → EqAt A s u v (eqD d e) := by
  intro n
  induction n with
  | zero =>
    intro d e x y u v A hn hu hx hy rx ry sh
    cases fd : flatD d with
    | some x' =>
      obtain ⟨y', fe⟩ := shD_flat fd sh
      obtain ⟨rfl, f1⟩ := hx.flat fd
      obtain ⟨rfl, f2⟩ := hy.flat fe
      rw [eqD_flat fd fe]
      exact eqAt_V rx ry f1 f2
    | none =>
      cases d with
      | tup ds => unfold depD at hn; exact absurd hn (by omega)
      | lst ds => unfold depD at hn; exact absurd hn (by omega)
      | _ => cases fd
  | succ n ih =>
    intro d e x y u v A hn hu hx hy rx ry sh
    cases fd : flatD d with
    | some x' =>
      obtain ⟨y', fe⟩ := shD_flat fd sh
      obtain ⟨rfl, f1⟩ := hx.flat fd
      obtain ⟨rfl, f2⟩ := hy.flat fe
      rw [eqD_flat fd fe]
      exact eqAt_V rx ry f1 f2
    | none =>
      cases d with
      | tup ds =>
        cases e with
        | tup es =>
          cases hx with
          | @tup a xs _ h hs =>
            cases hy with
            | @tup b ys _ h' hs' =>
              cases rx
              cases ry
              by_cases hab : a = b
              · subst hab
                have e := Den.inj I (.tup h hs) (.tup h' hs')
                rw [e, eqD_refl]
                exact EqAt.same _
              · obtain ⟨us, r, ht, _⟩ := I.tuple (SqT.of h)
                obtain ⟨ws, r', ht', _⟩ := I.tuple (SqT.of h')
                have sh' : shDs ds es = true := by unfold shD at sh; exact sh
                rw [show eqD (.tup ds) (.tup es) = eqDs ds es from by unfold eqD; rfl]
                rw [← eqDs_min]
                have l1 : us.toArray.size = ds.length := by rw [List.size_toArray, ← r.length, hs.length]
                have l2 : ws.toArray.size = es.length := by rw [List.size_toArray, ← r'.length, hs'.length]
                rw [← l1, ← l2]
                refine EqAt.of_refs hab (RcAt.tuples ht ht' (by omega) fun j h1 h2 => ?_)
                obtain ⟨p, rp, dp, ep⟩ := hs.getD r (j := j) (by simpa using h1)
                obtain ⟨q, rq, dq, eq⟩ := hs'.getD r' (j := j) (by simpa using h2)
                unfold depD at hn
                have hd := depDs_mem (List.mem_of_getElem? ep)
                exact (shDs_get sh' ep eq).elim (fun z => ih (A := A.in1) (by omega) (by show A.units + 1 + n < cLine; omega) dp dq (by simpa using rp) (by simpa using rq) z) (fun z => eqAt_mix (A := A.in1) I (by show A.units + 1 < cLine; omega) dp dq (by simpa using rp) (by simpa using rq) z)
        | _ => unfold shD at sh; cases sh
      | lst ds =>
        cases e with
        | lst es =>
          cases hx with
          | @lst a xs _ h hs =>
            cases hy with
            | @lst b ys _ h' hs' =>
              cases rx
              cases ry
              by_cases hab : a = b
              · subst hab
                have e := Den.inj I (.lst h hs) (.lst h' hs')
                rw [e, eqD_refl]
                exact EqAt.same _
              · obtain ⟨us, r, ht, _⟩ := I.list h
                obtain ⟨ws, r', ht', _⟩ := I.list h'
                have sh' : shDs ds es = true := by unfold shD at sh; exact sh
                rw [show eqD (.lst ds) (.lst es) = eqDs ds es from by unfold eqD; rfl]
                have l1 : us.toArray.size = ds.length := by rw [List.size_toArray, ← r.length, hs.length]
                have l2 : ws.toArray.size = es.length := by rw [List.size_toArray, ← r'.length, hs'.length]
                by_cases hl : ds.length = es.length
                · rw [← eqDs_all hl, ← l1]
                  refine EqAt.of_refs hab (RcAt.lists ht.isList ht'.isList (by rw [l1, l2]; exact hl) (by omega) fun j h1 h2 => ?_)
                  obtain ⟨p, rp, dp, ep⟩ := hs.getD r (j := j) (by simpa using h1)
                  obtain ⟨q, rq, dq, eq⟩ := hs'.getD r' (j := j) (by simpa using h2)
                  unfold depD at hn
                  have hd := depDs_mem (List.mem_of_getElem? ep)
                  exact (shDs_get sh' ep eq).elim (fun z => ih (A := A.in1) (by omega) (by show A.units + 1 + n < cLine; omega) dp dq (by simpa using rp) (by simpa using rq) z) (fun z => eqAt_mix (A := A.in1) I (by show A.units + 1 < cLine; omega) dp dq (by simpa using rp) (by simpa using rq) z)
                · rw [eqDs_len hl]
                  exact EqAt.of_refs hab (RcAt.lists_lengths ht.isList ht'.isList (by rw [l1, l2]; simpa using hl) (by omega))
        | _ => unfold shD at sh; cases sh
      | _ => cases fd
end L2
namespace L2
open PySem PySem.Spec PyProof.Rows PySem.SeqAt
section
variable {X : Cx} {pins : List (Addr × Obj)} {σ : St} {H : Hp} {s : Shared}
def seqD : Dt → Option (List Dt)
  | .tup ds => some ds
  | .lst ds => some ds
  | _ => none
theorem items_den {n : Nat} {A : Around} (I : Inv X pins σ H s) {xs ys : List V} {ds es : List Dt} {us ws : List Value} (hn : depDs ds ≤ n) (hu : A.units + (n + 1) < cLine) (hs : Dens X.K H xs ds) (hs' : Dens X.K H ys es) (r : Vals xs us) (r' : Vals ys ws)
    (sh : shDs ds es = true) (j : Nat) (h1 : j < us.toArray.size) (h2 : j < ws.toArray.size) : EqAt A.in1 s us.toArray[j] ws.toArray[j] (atD ds es j) := by
  obtain ⟨p, rp, dp, ep⟩ := hs.getD r (j := j) (by simpa using h1)
  obtain ⟨q, rq, dq, eq⟩ := hs'.getD r' (j := j) (by simpa using h2)
  have hd := depDs_mem (List.mem_of_getElem? ep)
  exact (shDs_get sh ep eq).elim (fun z => eqAt_den I n (A := A.in1) (by omega) (by show A.units + 1 + n < cLine; omega) dp dq (by simpa using rp) (by simpa using rq) z) (fun z => eqAt_mix (A := A.in1) I (by show A.units + 1 < cLine; omega) dp dq (by simpa using rp) (by simpa using rq) z)
theorem rcAt_den {A : Around} (I : Inv X pins σ H s) {d e : Dt} {a b : Addr} (hq : (seqD d).isSome = true) (hu : A.units + 60 < cLine) (hn : depD d ≤ 50) (hx : Den X.K H (.ref a) d) (hy : Den X.K H (.ref b) e) (sh : shD d e = true) : RcAt A s (.ref a) (.ref b) (eqD d e) ∧ RcNeAt A s (.ref a) (.ref b) (!eqD d e) := by
  cases d with
  | tup ds =>
    cases e with
    | tup es =>
      cases hx with
      | tup h hs =>
        cases hy with
        | tup h' hs' =>
          obtain ⟨us, r, ht, _⟩ := I.tuple (SqT.of h)
          obtain ⟨ws, r', ht', _⟩ := I.tuple (SqT.of h')
          have sh' : shDs ds es = true := by unfold shD at sh; exact sh
          have hn' : depDs ds ≤ 49 := by unfold depD at hn; omega
          rw [show eqD (.tup ds) (.tup es) = eqDs ds es from by unfold eqD; rfl, ← eqDs_min]
          have l1 : us.toArray.size = ds.length := by rw [List.size_toArray, ← r.length, hs.length]
          have l2 : ws.toArray.size = es.length := by rw [List.size_toArray, ← r'.length, hs'.length]
          rw [← l1, ← l2]
          exact ⟨RcAt.tuples ht ht' (by omega) (items_den I hn' (by omega) hs hs' r r' sh'), RcNeAt.tuples ht ht' (by omega) (items_den I hn' (by omega) hs hs' r r' sh')⟩
    | _ => unfold shD at sh; cases sh
  | lst ds =>
    cases e with
    | lst es =>
      cases hx with
      | lst h hs =>
        cases hy with
        | lst h' hs' =>
          obtain ⟨us, r, ht, _⟩ := I.list h
          obtain ⟨ws, r', ht', _⟩ := I.list h'
          have sh' : shDs ds es = true := by unfold shD at sh; exact sh
          have hn' : depDs ds ≤ 49 := by unfold depD at hn; omega
          rw [show eqD (.lst ds) (.lst es) = eqDs ds es from by unfold eqD; rfl]
          have l1 : us.toArray.size = ds.length := by rw [List.size_toArray, ← r.length, hs.length]
          have l2 : ws.toArray.size = es.length := by rw [List.size_toArray, ← r'.length, hs'.length]
          by_cases hl : ds.length = es.length
          · rw [← eqDs_all hl, ← l1]
            exact ⟨RcAt.lists ht.isList ht'.isList (by rw [l1, l2]; exact hl) (by omega) (items_den I hn' (by omega) hs hs' r r' sh'), RcNeAt.lists ht.isList ht'.isList (by rw [l1, l2]; exact hl) (by omega) (items_den I hn' (by omega) hs hs' r r' sh')⟩
          · rw [eqDs_len hl]
            exact ⟨RcAt.lists_lengths ht.isList ht'.isList (by rw [l1, l2]; simpa using hl) (by omega), RcNeAt.lists_lengths ht.isList ht'.isList (by rw [l1, l2]; simpa using hl) (by omega)⟩
    | _ => unfold shD at sh; cases sh
  | _ => cases hq
def rEqD (K : PySem.W.Frag) (neg : Bool) : R2 := fun x y H Q => ∃ d e, (seqD d).isSome = true ∧ Den K H x d ∧ Den K H y e ∧ shD d e = true ∧ depD d ≤ 50 ∧ Q (.bl (if neg then !eqD d e else eqD d e)) H
theorem Den.ref_of {K : PySem.W.Frag} {x : V} {d e : Dt} {y : V} (hq : (seqD d).isSome = true) (hx : Den K H x d) (hy : Den K H y e) (sh : shD d e = true) : ∃ a b, x = .ref a ∧ y = .ref b := by
  cases hx with
  | @tup a _ _ _ _ =>
    cases hy with
    | @tup b _ _ _ _ => exact ⟨a, b, rfl, rfl⟩
    | _ => unfold shD at sh; cases sh
  | @lst a _ _ _ _ =>
    cases hy with
    | @lst b _ _ _ _ => exact ⟨a, b, rfl, rfl⟩
    | _ => unfold shD at sh; cases sh
  | _ => cases hq
theorem op_eqD (hu : X.A.units + 60 < cLine) : OpR X (compareOp .Eq) (rEqD X.K false) := by
  intro pins s σ H x y v u Q I rx ry h
  obtain ⟨d, e, hq, hx, hy, sh, hn, q⟩ := h
  obtain ⟨a, b, rfl, rfl⟩ := Den.ref_of hq hx hy sh
  cases rx
  cases ry
  exact (rcAt_den I hq hu hn hx hy sh).1 _ _ _ _ ⟨.bl _, H, I, rfl, q⟩
theorem op_neD (hu : X.A.units + 60 < cLine) : OpR X (compareOp .NotEq) (rEqD X.K true) := by
  intro pins s σ H x y v u Q I rx ry h
  obtain ⟨d, e, hq, hx, hy, sh, hn, q⟩ := h
  obtain ⟨a, b, rfl, rfl⟩ := Den.ref_of hq hx hy sh
  cases rx
  cases ry
  exact (rcAt_den I hq hu hn hx hy sh).2 _ _ _ _ ⟨.bl _, H, I, rfl, q⟩
def rInD (K : PySem.W.Frag) (neg : Bool) : R2 := fun x y H Q => ∃ d es p, y = .ref p ∧ Den K H x d ∧ (Den K H y (.lst es) ∨ Den K H y (.tup es)) ∧ (∀ e ∈ es, shD e d = true ∧ depD e ≤ 50) ∧ Q (.bl (if neg then !(es.any fun e => eqD e d) else es.any fun e => eqD e d)) H
theorem any_den {K : PySem.W.Frag} {d : Dt} {P : Value → Bool} : ∀ {xs : List V} {es : List Dt} {us : List Value}, Dens K H xs es → Vals xs us → (∀ (j : Nat) (u : Value) (e : Dt), us[j]? = some u → es[j]? = some e → P u = eqD e d) → us.any P = es.any fun e => eqD e d
  | _, _, _, .nil, .nil, _ => rfl
  | _, _, _, .cons _ t, .cons _ r, h => by
    rw [List.any_cons, List.any_cons, h 0 _ _ rfl rfl, any_den t r fun j u e h1 h2 => h (j + 1) u e (by simpa using h1) (by simpa using h2)]
open Classical in
theorem in_den (I : Inv X pins σ H s) {x : V} {v : Value} {d : Dt} {ys : List V} {es : List Dt} {us : List Value} {A : Around} (hu : A.units + 60 < cLine) (rx : RelV x v) (hx : Den X.K H x d) (hs : Dens X.K H ys es) (r : Vals ys us) (hsh : ∀ e ∈ es, shD e d = true ∧ depD e ≤ 50) :
    ∃ P : Value → Bool, (∀ u ∈ us, EqAt A s u v (P u)) ∧ us.any P = es.any fun e => eqD e d := by
  have key : ∀ (j : Nat) (u : Value) (e : Dt), us[j]? = some u → es[j]? = some e → EqAt A s u v (eqD e d) ∧ ∃ y, RelV y u ∧ Den X.K H y e := fun j u e h1 h2 => by
    obtain ⟨y, h3, dy⟩ := hs.get' h2
    obtain ⟨u', h4, ry⟩ := r.get h3
    rw [h1] at h4; cases h4
    obtain ⟨a1, a2⟩ := hsh e (List.mem_of_getElem? h2)
    exact ⟨eqAt_den I 50 a2 (by omega) dy hx ry rx a1, y, ry, dy⟩
  have one : ∀ (j : Nat) (u : Value) (e : Dt), us[j]? = some u → es[j]? = some e → decide (∃ y e, RelV y u ∧ Den X.K H y e ∧ eqD e d = true) = eqD e d := fun j u e h1 h2 => by
    obtain ⟨_, y, ry, dy⟩ := key j u e h1 h2
    cases q : eqD e d with
    | true => exact decide_eq_true ⟨y, _, ry, dy, q⟩
    | false =>
      refine decide_eq_false fun ⟨y', e', ry', dy', q'⟩ => ?_
      have ey := ry.inj ry'
      subst ey
      rw [Den.inj I dy' dy, q] at q'
      cases q'
  refine ⟨fun u => decide (∃ y e, RelV y u ∧ Den X.K H y e ∧ eqD e d = true), fun u hu' => ?_, any_den hs r one⟩
  obtain ⟨j, hj⟩ := List.getElem?_of_mem hu'
  have hl : j < es.length := by rw [← hs.length, r.length]; exact (List.getElem?_eq_some_iff.mp hj).1
  have e1 := (key j u es[j] hj (by simp [hl])).1
  show EqAt A s u v (decide _)
  rw [one j u es[j] hj (by simp [hl])]
  exact e1
theorem op_inD (hu : X.A.units + 61 < cLine) : OpR X (compareOp .In) (rInD X.K false) := by
  intro pins s σ H x y v u Q I rx ry h
  obtain ⟨d, es, p, rfl, hx, hy, hsh, q⟩ := h
  cases ry
  rcases hy with hy | hy
  · cases hy with
    | lst h' hs =>
      obtain ⟨us, r, ht, _⟩ := I.list h'
      obtain ⟨P, hP, e⟩ := in_den (A := X.A.in1) I (by show X.A.units + 1 + 60 < cLine; omega) rx hx hs r hsh
      exact in_listAt P ht.isList (fun z hz => hP z (by simpa using hz)) ⟨.bl _, H, I, by rw [← e]; simp <;> rfl, q⟩
  · cases hy with
    | tup h' hs =>
      obtain ⟨us, r, ht, _⟩ := I.tuple (SqT.of h')
      obtain ⟨P, hP, e⟩ := in_den (A := X.A.in1) I (by show X.A.units + 1 + 60 < cLine; omega) rx hx hs r hsh
      exact in_tupleAt P ht (fun z hz => hP z (by simpa using hz)) ⟨.bl _, H, I, by rw [← e]; simp <;> rfl, q⟩
theorem op_notInD (hu : X.A.units + 61 < cLine) : OpR X (compareOp .NotIn) (rInD X.K true) := by
  intro pins s σ H x y v u Q I rx ry h
  obtain ⟨d, es, p, rfl, hx, hy, hsh, q⟩ := h
  cases ry
  rcases hy with hy | hy
  · cases hy with
    | lst h' hs =>
      obtain ⟨us, r, ht, _⟩ := I.list h'
      obtain ⟨P, hP, e⟩ := in_den (A := X.A.in1) I (by show X.A.units + 1 + 60 < cLine; omega) rx hx hs r hsh
      exact notIn_listAt P ht.isList (fun z hz => hP z (by simpa using hz)) ⟨.bl _, H, I, by rw [← e]; simp <;> rfl, q⟩
  · cases hy with
    | tup h' hs =>
      obtain ⟨us, r, ht, _⟩ := I.tuple (SqT.of h')
      obtain ⟨P, hP, e⟩ := in_den (A := X.A.in1) I (by show X.A.units + 1 + 60 < cLine; omega) rx hx hs r hsh
      exact notIn_tupleAt P ht (fun z hz => hP z (by simpa using hz)) ⟨.bl _, H, I, by rw [← e]; simp <;> rfl, q⟩
end
end L2
set_option Elab.async false
set_option linter.all false
set_option maxRecDepth 100000
namespace L2
open PySem PySem.Spec PyProof.Rows
structure Df (P : Program) (w : World) (K : PySem.W.Frag) (mg : Str → Option Value) (base : Heap) (k : Nat) (x : Str) (ps : List Str) (sp : Sp) : Prop where
  ex : ∃ f fd, FnOk P w K mg base (CXE P w) k f fd ps sp ∧ mg x = some (.ref f) ∧ PySem.W.keepIn K (.ref f) = true ∧ Binds K fd ps []
theorem passE {X : Cx} : Passes (CXE X.prog X.w) X E0 := by
  intro pins σ H s e s' I h
  obtain ⟨ea, C, H', _, _, _, _, _, _, z⟩ := h
  exact z.elim
section
variable {P : Program} {w : World} {K : PySem.W.Frag} {mg : Str → Option Value} {base : Heap}
theorem Fun.okE {x qual : Str} {st : Stmt} {f : Addr} {fd : FuncData} {N ps : List Str} {k : Nat} {sp : Sp} (F : Fun K x qual st f fd) (S : FnScope N ps (defScope st)) (len : ∀ vs H Q E, sp vs H Q E → vs.length = ps.length)
    (hbody : ∀ (cdv : Value) (A : Around) (outer : List Env) (s : Shared) (H : Hp) (vs : List V) (Q : VK) (E : XK), Room k (A.deeper (envOfC qual (defScope st) s.heap.objs.size f cdv)) → sp vs H Q E →
      ∃ t, PSs (cxOf (CXE P w) P w K mg base N qual (defScope st) f cdv A outer s H E) (defBody st) t ∧ t { nx := fun _ H' => Q .non H', rt := Q } (start N vs) H) : FnOk P w K mg base (CXE P w) (k + 1) f fd ps sp := by
  obtain ⟨oc, od, kV, doc, pm, an, cdv, ct, osl, rfl, lk, hcd⟩ := F.ex
  exact fn_of lk hcd S len fun A outer s H vs Q E hr hsp => hbody cdv A outer s H vs Q E hr hsp
theorem Fun.ok0 {x qual : Str} {st : Stmt} {f : Addr} {fd : FuncData} {N ps : List Str} {k : Nat} {sp : Sp} (F : Fun K x qual st f fd) (S : FnScope N ps (defScope st)) (len : ∀ vs H Q E, sp vs H Q E → vs.length = ps.length)
    (hbody : ∀ (cdv : Value) (A : Around) (outer : List Env) (s : Shared) (H : Hp) (vs : List V) (Q : VK) (E : XK), Room k (A.deeper (envOfC qual (defScope st) s.heap.objs.size f cdv)) → sp vs H Q E →
      ∃ t, PSs (cxOf (CXE P w) P w K mg base N qual (defScope st) f cdv A outer s H E).nox (defBody st) t ∧ t { nx := fun _ H' => Q .non H', rt := Q } (start N vs) H) : FnOk P w K mg base (CXE P w) (k + 1) f fd ps sp :=
  F.okE S len fun cdv A outer s H vs Q E hr hsp => let ⟨t, h, q⟩ := hbody cdv A outer s H vs Q E hr hsp; ⟨t, h.nox, q⟩
end
theorem PS.nox {X : Cx} {st : Stmt} {t : TS} (h : PS X.nox st t) : PS X st t := fun pins s σ H D I hw =>
  wpAny_mono (h pins s σ H D (I.wish _) hw) (fun _ _ q => SP.unwish q) fun _ _ z => False.elim z
section
variable {X : Cx} {k j : Nat} {ps : List Str} {sp : Sp} {E : XK} {x : Str} {p pos : Pos} {e : Expr} {es : List Expr} {t : TA}
theorem pe_def (D : Df X.prog X.w X.K X.mg X.base k x ps sp) (hr : Room j X.A) (hg : Gl X x) (hx : Passes (CXE X.prog X.w) X E) (ha : PA X (e :: es) t) (hk : k ≤ j := by decide)
    (hdb : (x == ("__debug__" : Str)) = false := by decide) (he : starEach (e :: es) X.env = (false, eval e X.env) :: starEach es X.env := by rfl) (hpl : (backTo pos (starEach es X.env)).any (·.1) = false := by rfl) :
    PE X (.Call (.Name x p) (e :: es) [] pos) (tCall sp [] E t) := by
  obtain ⟨f, fd, F, hm, kp, hb⟩ := D.ex
  exact pe_call F (hr.mono hk) hg hm kp hb .nil hx ha hdb he hpl
end
section
variable {X : Cx} {x : Str} {pos : Pos}
theorem pe_gint {i : Int} (h : ∃ t, X.mg x = some (.int i t)) (hg : Gl X x) (hd : (x == ("__debug__" : Str)) = false := by decide) : PE X (.Name x pos) (tC (.int i)) := by
  obtain ⟨t, h⟩ := h
  exact pe_glob hg h ⟨t, rfl⟩ hd
theorem pe_gstr {z : Str} (h : ∃ t, X.mg x = some (.str z t)) (hg : Gl X x) (hd : (x == ("__debug__" : Str)) = false := by decide) : PE X (.Name x pos) (tC (.str z)) := by
  obtain ⟨t, h⟩ := h
  exact pe_glob hg h ⟨t, rfl⟩ hd
end
section
variable {X : Cx}
def rAddG : R2 := fun x y H Q => match x, y with
  | .int i, .int j => Q (.int (i + j)) H
  | .str i, .str j => i.length + j.length ≤ sizeLine ∧ Q (.str (i ++ j)) H
  | .ref l, .ref b => ∃ xs zs, H l = some (.lst xs) ∧ H b = some (.lst zs) ∧ xs.length + zs.length ≤ sizeLine ∧ ∀ p, H p = none → Q (.ref p) (upd H p (.lst (xs ++ zs)))
  | _, _ => False
theorem op_addG : OpR X (binaryOp .Add) rAddG := by
  intro pins s σ H x y v u Q I rx ry h
  unfold rAddG at h
  split at h
  · exact op_add pins s σ H _ _ v u Q I rx ry ⟨_, _, rfl, rfl, h⟩
  · exact op_add_str pins s σ H _ _ v u Q I rx ry ⟨_, _, rfl, rfl, h.1, h.2⟩
  · obtain ⟨xs, zs, h1, h2, h3, h4⟩ := h
    exact op_cat pins s σ H _ _ v u Q I rx ry ⟨_, _, xs, zs, rfl, rfl, h1, h2, h3, h4⟩
  · exact h.elim
def rMulG : R2 := fun x y H Q => match x, y with
  | .int i, .int j => CMul i j ∧ Q (.int (i * j)) H
  | .str z, .int n => z.length ≤ 1000 ∧ -1000 ≤ n ∧ n ≤ 1000 ∧ Q (.str (repS z n)) H
  | .ref l, .int k => ∃ xs, H l = some (.lst xs) ∧ -(2 ^ 63) ≤ k ∧ k < 2 ^ 63 ∧ xs.length * k.toNat ≤ sizeLine ∧ ∀ p, H p = none → Q (.ref p) (upd H p (.lst (List.replicate k.toNat xs).flatten))
  | _, _ => False
theorem op_mulG : OpR X (binaryOp .Mult) rMulG := by
  intro pins s σ H x y v u Q I rx ry h
  unfold rMulG at h
  split at h
  · exact op_mul pins s σ H _ _ v u Q I rx ry ⟨_, _, rfl, rfl, h.1, h.2⟩
  · exact op_mul_str pins s σ H _ _ v u Q I rx ry ⟨_, _, rfl, rfl, h.1, h.2.1, h.2.2.1, h.2.2.2⟩
  · obtain ⟨xs, h1, h2, h3, h4, h5⟩ := h
    exact op_rep pins s σ H _ _ v u Q I rx ry ⟨_, _, xs, rfl, rfl, h1, h2, h3, h4, h5⟩
  · exact h.elim
end
end L2
set_option Elab.async false
set_option linter.all false
set_option maxRecDepth 100000
namespace L2
open PySem PySem.Spec PyProof.Rows
end L2
set_option Elab.async false
set_option linter.all false
set_option maxRecDepth 100000
namespace L2
open PySem PySem.Spec PyProof.Rows
theorem comp_by {J : It} {n : Nat} {item : Nat → V} {tc : TT} {te : TE} {σ : St} {fin : List V → Hp → Prop} {H : Hp} (R : Nat → List V → Hp → Prop) (hn : n ≤ sizeLine)
    (hgo : ∀ i ys H, i < n → R i ys H → J.go i H) (hy : ∀ i ys H v H', i < n → R i ys H → J.yld i H v H' → v = item i ∧ H' = H) (hstop : ∀ ys H, R n ys H → J.stop n H)
    (hl : ∀ i ys H, i ≤ n → R i ys H → ys.length ≤ i) (h0 : R 0 [] H)
    (hs : ∀ i ys H, i < n → R i ys H → ∀ G : List V → Hp → Prop, (∀ ys' H', R (i + 1) ys' H' → G ys' H') → tc (some (item i) :: σ) H fun b H2 => if b = true then te (some (item i) :: σ) H2 fun y H3 => G (ys ++ [y]) H3 else G ys H2)
    (hd : ∀ ys H, R n ys H → fin ys H) : ∃ W : Nat → Nat → List V → Hp → Prop, (∃ m, W 0 m [] H) ∧ CompW J tc te σ fin W := by
  refine ⟨fun i m ys H => m = n - i ∧ i ≤ n ∧ R i ys H, ⟨n, by omega, Nat.zero_le _, h0⟩, ?_⟩
  rintro i m ys H ⟨rfl, hi, r⟩
  refine ⟨Nat.le_trans (hl i ys H hi r) (Nat.le_trans hi hn), ?_⟩
  by_cases hlt : i < n
  · refine .inr ⟨hgo i ys H hlt r, fun v H' y => ?_⟩
    obtain ⟨rfl, rfl⟩ := hy i ys H v H' hlt r y
    exact hs i ys _ hlt r (fun ys' H2 => ∃ m', m' < n - i ∧ (m' = n - (i + 1) ∧ i + 1 ≤ n ∧ R (i + 1) ys' H2)) fun ys' H2 r' => ⟨n - (i + 1), by omega, rfl, hlt, r'⟩
  · have e : i = n := by omega
    subst e
    exact .inl ⟨hstop ys H r, hd ys H r⟩
theorem comp_range {lo : Int} {n : Nat} {tc : TT} {te : TE} {σ : St} {fin : List V → Hp → Prop} {H : Hp} (R : Nat → List V → Hp → Prop) (hn : n ≤ sizeLine)
    (hl : ∀ i ys H, i ≤ n → R i ys H → ys.length ≤ i) (h0 : R 0 [] H)
    (hs : ∀ i ys H, i < n → R i ys H → ∀ G : List V → Hp → Prop, (∀ ys' H', R (i + 1) ys' H' → G ys' H') → tc (some (.int (lo + i)) :: σ) H fun b H2 => if b = true then te (some (.int (lo + i)) :: σ) H2 fun y H3 => G (ys ++ [y]) H3 else G ys H2)
    (hd : ∀ ys H, R n ys H → fin ys H) : ∃ W : Nat → Nat → List V → Hp → Prop, (∃ m, W 0 m [] H) ∧ CompW (Itr lo n) tc te σ fin W :=
  comp_by (n := n) (item := fun i => .int (lo + i)) R hn (fun i ys H hi r => hi) (fun i ys H v H' hi r y => ⟨y.2, y.1⟩) (fun ys H r => Nat.le_refl _) hl h0 hs hd
theorem Same.put {H : Hp} {p : Addr} {o : HO} (h : H p = none) : Same H (upd H p o) := fun b u e => by
  rw [upd_ne (ne_of_none e h)]; exact e
theorem Same.and {H H' : Hp} {p : Addr} {o : HO} (s : Same H H') (h : H' p = none) : Same H (L2.upd H' p o) := s.trans (Same.put h)
theorem Same.tup {K : PySem.W.Frag} {H H' : Hp} {a : Addr} {xs : List V} (e : Same H H') (h : SqT K H a xs) : SqT K H' a xs := by
  rcases h with (h | ⟨o, h⟩) | h
  · exact .inl (.inl (e _ _ h))
  · exact .inl (.inr ⟨o, e _ _ h⟩)
  · exact .inr h
theorem small {n : Nat} (h : n ≤ 10000) : n ≤ sizeLine := Nat.le_trans h (by rw [sizeLine_eq]; decide)
theorem atI_int {ns : List Int} {i : Int} (h0 : 0 ≤ i) (h1 : i < ns.length) : ∃ v, atI (ns.map V.int) i = some (V.int v) := by
  obtain ⟨k, rfl⟩ := Int.eq_ofNat_of_zero_le h0
  have hk : k < ns.length := by omega
  exact ⟨ns[k], atI_nat (by simp [hk])⟩
theorem atI_of {α : Type} {xs : List α} {i : Int} (h0 : 0 ≤ i) (h1 : i < xs.length) : ∃ v, v ∈ xs ∧ atI xs i = some v := by
  obtain ⟨k, rfl⟩ := Int.eq_ofNat_of_zero_le h0
  have hk : k < xs.length := by omega
  exact ⟨xs[k], List.getElem_mem hk, atI_nat (by simp [hk])⟩
theorem hu60 {A : Around} {k : Nat} (hr : Room k A) : A.units + 60 < cLine := Nat.lt_of_le_of_lt (Nat.add_le_add_left (by decide : 60 ≤ 64) _) hr.units
theorem hu61 {A : Around} {k : Nat} (hr : Room k A) : A.units + 61 < cLine := Nat.lt_of_le_of_lt (Nat.add_le_add_left (by decide : 61 ≤ 64) _) hr.units
end L2
set_option Elab.async false
set_option linter.all false
set_option maxRecDepth 100000
namespace L2
open PySem PySem.Spec PyProof.Rows
def notStar : Expr → Bool
  | .Starred _ _ => false
  | _ => true
theorem st_of {env : Env} {e : Expr} {es : List Expr} (h : notStar e = true) : starEach (e :: es) env = (false, eval e env) :: starEach es env := by
  cases e <;> first | rfl | cases h
theorem np_of {env : Env} {pos : Pos} : ∀ {es : List Expr}, es.all notStar = true → (backTo pos (starEach es env)).any (·.1) = false
  | [], _ => rfl
  | e :: es, h => by
    rw [List.all_cons, Bool.and_eq_true] at h
    rw [st_of h.1]
    show (false || (backTo pos (starEach es env)).any (·.1)) = false
    rw [np_of h.2]; rfl
section
variable {X : Cx} {k j : Nat} {ps : List Str} {sp : Sp} {E : XK} {x : Str} {p pos : Pos} {e : Expr} {es : List Expr} {te : TE} {t : TA} {id T : String} {r : List V → Hp → VK → Prop} {C f : Addr} {fd : FuncData}
theorem qe_def (D : Df X.prog X.w X.K X.mg X.base k x ps sp) (hr : Room j X.A) (hg : Gl X x) (hx : Passes (CXE X.prog X.w) X E) (ha : PA X (e :: es) t) (hk : k ≤ j := by decide) (h1 : notStar e = true := by rfl) (h2 : es.all notStar = true := by rfl)
    (hdb : (x == ("__debug__" : Str)) = false := by decide) : PE X (.Call (.Name x p) (e :: es) [] pos) (tCall sp [] E t) := pe_def D hr hg hx ha hk hdb (st_of h1) (np_of h2)
theorem qe_callB (hc : CallR X (.builtin id) r) (hg : Gl X x) (hm : X.mg x = none) (hv : bootBuiltins x = some (.builtin id)) (ha : PA X (e :: es) t) (h1 : notStar e = true := by rfl) (h2 : es.all notStar = true := by rfl) (hn : x ≠ "__name__" := by decide)
    (hdb : (x == ("__debug__" : Str)) = false := by decide) : PE X (.Call (.Name x p) (e :: es) [] pos) (tCB r t) := pe_callB hc hg hm hv ha hn hdb (st_of h1) (np_of h2)
theorem qe_callTy (hc : CallR X (.type T) r) (hg : Gl X x) (hm : X.mg x = none) (hv : bootBuiltins x = some (.type T)) (ha : PA X (e :: es) t) (h1 : notStar e = true := by rfl) (h2 : es.all notStar = true := by rfl) (hn : x ≠ "__name__" := by decide)
    (hdb : (x == ("__debug__" : Str)) = false := by decide) : PE X (.Call (.Name x p) (e :: es) [] pos) (tCB r t) := pe_callTy hc hg hm hv ha hn hdb (st_of h1) (np_of h2)
end
structure Md (P : Program) (w : World) (K : PySem.W.Frag) (mg : Str → Option Value) (base : Heap) (k : Nat) (x : Str) (ps : List Str) (C : Addr) (sp : Sp) : Prop where
  ex : ∃ f fd, Mk K C f ∧ FnOk P w K mg base (CXE P w) k f fd ps sp ∧ mg x = some (.ref C) ∧ Binds K fd ps []
section
variable {X : Cx} {k j : Nat} {ps : List Str} {sp : Sp} {E : XK} {x : Str} {p pos : Pos} {e : Expr} {es : List Expr} {te : TE} {t : TA} {C : Addr}
theorem qe_make (D : Md X.prog X.w X.K X.mg X.base k x ps C sp) (hr : Room j X.A) (hg : Gl X x) (hx : Passes (CXE X.prog X.w) X E) (ha : PA X (e :: es) t) (hk : k + 1 ≤ j := by decide) (h1 : notStar e = true := by rfl) (h2 : es.all notStar = true := by rfl)
    (hdb : (x == ("__debug__" : Str)) = false := by decide) : PE X (.Call (.Name x p) (e :: es) [] pos) (tMake C sp [] E t) := by
  obtain ⟨f, fd, M, F, hm, hb⟩ := D.ex
  exact pe_make M F (hr.mono hk) hg hm hb .nil hx ha hdb (st_of h1) (np_of h2)
end
end L2
set_option Elab.async false
set_option linter.all false
set_option maxRecDepth 100000
namespace L2
open PySem PySem.Spec PyProof.Rows
structure RE (X : Cx) (e : Expr) (t : TE) : Prop where ok : PE X e t
structure RT (X : Cx) (e : Expr) (t : TT) : Prop where ok : PT X e t
structure RB (X : Cx) (e : Expr) (t : TT) : Prop where ok : PW X e t
structure RA (X : Cx) (es : List Expr) (t : TA) : Prop where ok : PA X es t
structure RS (X : Cx) (st : Stmt) (t : TS) : Prop where ok : PS X st t
structure RSs (X : Cx) (st : List Stmt) (t : TS) : Prop where ok : PSs X st t
structure RI (X : Cx) (tg iter : Expr) (t : TI) : Prop where ok : PI X tg iter t
structure RG (X : Cx) (tg : Expr) (t : TG) : Prop where ok : PG X tg t
structure RGs (X : Cx) (ts : List Expr) (t : TGs) : Prop where ok : PGs X ts t
structure RO (X : Cx) (e : Option Expr) (t : TO) : Prop where ok : PO X e t
structure RIf (X : Cx) (ifs : List Expr) (t : TT) : Prop where ok : PIfs X ifs t
def notComp : Expr → Bool
  | .ListComp _ _ _ _ => false
  | .SetComp _ _ _ _ => false
  | .DictComp _ _ _ _ _ => false
  | _ => true
theorem sw_of {e : Expr} {t : Option Expr} {n : Nat} {env : Env} (h : notComp e = true) : swapsWith e t n env = pure false := by
  cases e <;> first | rfl | cases h
def plainT : Expr → Bool
  | .Call _ _ _ _ => true
  | .Name _ _ => true
  | .Constant _ _ _ => true
  | .Attribute _ _ _ => true
  | .Subscript _ _ _ => true
  | _ => false
theorem pl_of {e : Expr} {env : Env} (h : plainT e = true) : ∀ whole, isTrue e env whole = (do let v ← whole; standAt e.pos; holding [v] (truthy v)) := by
  intro whole
  cases e <;> first | rfl | cases h
def noSlice : Expr → Bool
  | .Name _ _ => true
  | .Constant _ _ _ => true
  | .BinOp _ _ _ _ => true
  | .UnaryOp _ _ _ => true
  | .Call _ _ _ _ => true
  | .Subscript _ _ _ => true
  | .Attribute _ _ _ => true
  | _ => false
theorem ix_of {b : Expr} (h : noSlice b = true) : PlainIx b := by
  intro o i
  cases b <;> first | rfl | cases h
section
variable {X : Cx} {a b c e o : Expr} {es rest : List Expr} {ta tb tc te to : TE} {t : TA} {tA tB' : TT} {pos p : Pos} {i : Nat} {x : Str}
theorem rv (i : Nat) (hN : X.N[i]? = some x := by rfl) (hv : Vis X.env.scope x := by first | exact Or.inl rfl | exact Or.inr (Or.inl rfl) | exact Or.inr (Or.inr rfl)) (hd : (x == ("__debug__" : Str)) = false := by decide)
    (hcd : (x == ("__classdict__" : Str)) = false := by decide) : RE X (.Name x pos) (tVar i) := ⟨pe_var hN hv hd hcd⟩
theorem r_int {i j pos} : RE X (.Constant (.int i) j pos) (tC (.int i)) := ⟨pe_int⟩
theorem r_bl {b j pos} : RE X (.Constant (.bool b) j pos) (tC (.bl b)) := ⟨pe_bl⟩
theorem r_non {j pos} : RE X (.Constant .none j pos) (tC .non) := ⟨pe_non⟩
theorem r_str {z j pos} : RE X (.Constant (.str z) j pos) (tC (.str z)) := ⟨pe_str⟩
theorem r_gint {i : Int} (h : ∃ t, X.mg x = some (.int i t)) (hg : Gl X x) (hd : (x == ("__debug__" : Str)) = false := by decide) : RE X (.Name x pos) (tC (.int i)) := ⟨pe_gint h hg hd⟩
theorem r_gstr {z : Str} (h : ∃ t, X.mg x = some (.str z t)) (hg : Gl X x) (hd : (x == ("__debug__" : Str)) = false := by decide) : RE X (.Name x pos) (tC (.str z)) := ⟨pe_gstr h hg hd⟩
theorem r_op {op : Operator} {r : R2} (ho : OpR X (binaryOp op) r) (ha : RE X a ta) (hb : RE X b tb) : RE X (.BinOp a op b pos) (tOp r ta tb) := ⟨pe_op ho ha.ok hb.ok⟩
theorem r_un {op : UnaryOp} {r : V → Hp → VK → Prop} (ho : UnR X (unaryOp op) r) (ha : RE X a ta) : RE X (.UnaryOp op a pos) (tUn r ta) := ⟨pe_un ho ha.ok⟩
theorem r_cmp {op : CmpOp} {r : R2} (ho : OpR X (compareOp op) r) (ha : RE X a ta) (hb : RE X b tb) (hm : behindInMarks op b = false) : RE X (.Compare a [op] [b] pos) (tOp r ta tb) := ⟨pe_cmpR ho ha.ok hb.ok hm⟩
theorem rt_cmp {op : CmpOp} {r : R2} (ho : OpR X (compareOp op) r) (ha : RE X a ta) (hb : RE X b tb) (hm : behindInMarks op b = false) : RT X (.Compare a [op] [b] pos) (tTest (tOp r ta tb)) := ⟨pt_cmpR ho ha.ok hb.ok hm⟩
theorem r_chain {op op' : CmpOp} {r r' : R2} (ho : OpR X (compareOp op) r) (ho' : OpR X (compareOp op') r') (ha : RE X a ta) (hb : RE X b tb) (hc : RE X c tc)
    (hm : lastMarks [op, op'] [b, c] = false := by with_unfolding_all rfl) : RE X (.Compare a [op, op'] [b, c] pos) (tChain r r' ta tb tc) := ⟨pe_chain ho ho' ha.ok hb.ok hc.ok hm⟩
theorem rt_val (h : RE X e te) (he : plainT e = true := by rfl) : RT X e (L2.tB te) := ⟨pt_val h.ok (pl_of he)⟩
theorem rb_and1 (ha : RT X a tA) : RB X (.BoolOp .And [a] pos) tA := ⟨pw_and1 ha.ok⟩
theorem rb_or1 (ha : RT X a tA) : RB X (.BoolOp .Or [a] pos) tA := ⟨pw_or1 ha.ok⟩
theorem rb_and (ha : RT X a tA) (hb : RB X (.BoolOp .And (b :: rest) pos) tB') : RB X (.BoolOp .And (a :: b :: rest) pos) (tAnd tA tB') := ⟨pw_and ha.ok hb.ok⟩
theorem rb_or (ha : RT X a tA) (hb : RB X (.BoolOp .Or (b :: rest) pos) tB') : RB X (.BoolOp .Or (a :: b :: rest) pos) (tOr tA tB') := ⟨pw_or ha.ok hb.ok⟩
theorem rt_b (h : RB X e tA) : RT X e tA := ⟨h.ok.pt⟩
theorem rt_not (ha : RT X a tA) : RT X (.UnaryOp .Not a pos) (tNot tA) := ⟨pt_not ha.ok⟩
theorem r_one {op} {t : TE} (h : RE X a t) : RE X (.BoolOp op [a] pos) t := ⟨pe_one h.ok⟩
theorem r_and (ha : RE X a ta) (hb : RE X (.BoolOp .And (b :: rest) pos) tb) : RE X (.BoolOp .And (a :: b :: rest) pos) (tAndV ta tb) := ⟨pe_and ha.ok hb.ok⟩
theorem ra_nil : RA X [] tNil := ⟨pa_nil⟩
theorem ra_cons (ha : RE X e te) (hr : RA X es t) (hs : notStar e = true := by rfl) : RA X (e :: es) (tCons te t) := ⟨pa_cons ha.ok hr.ok (st_of hs)⟩
theorem r_tup {x1} (h : RA X es t) : RE X (.Tuple es x1 pos) (tTup t) := ⟨pe_tup h.ok⟩
theorem r_lst (h : RA X es t) : RE X (.List es pos) (tLst t) := ⟨pe_lst h.ok⟩
theorem r_ix {r : R2} (hr : IxR X r) (ha : RE X a ta) (hb : RE X b tb) (hs : noSlice b = true := by rfl) : RE X (.Subscript a b pos) (tOp r ta tb) := ⟨pe_ix hr ha.ok hb.ok (ix_of hs)⟩
theorem ro_none : RO X none tNoPart := ⟨po_none⟩
theorem ro_some (h : RE X e te) : RO X (some e) (tPart te) := ⟨po_some h.ok⟩
theorem r_slice {lo hi : Option Expr} {tl th : TO} {p2 : Pos} {r : V → Option Int → Option Int → Hp → VK → Prop} (hr : SlR X r) (he : RE X e te) (hl : RO X lo tl) (hu : RO X hi th) : RE X (.Subscript e (.Slice lo hi none p2) pos) (tSl r te tl th) := ⟨pe_slice hr he.ok hl.ok hu.ok⟩
theorem r_fld {f : Str} (he : RE X e ta) (hb : attributeBase e f X.env (eval e X.env) = eval e X.env := by rfl) : RE X (.Attribute e f pos) (tFld X.K ta f) := ⟨pe_fld he.ok hb⟩
variable {k j : Nat} {ps : List Str} {sp : Sp} {E : XK} {id T : String} {r : List V → Hp → VK → Prop} {C : Addr}
theorem r_def (D : Df X.prog X.w X.K X.mg X.base k x ps sp) (hr : Room j X.A) (hg : Gl X x) (hx : Passes (CXE X.prog X.w) X E) (ha : RA X (e :: es) t) (hk : k ≤ j := by decide) (h1 : notStar e = true := by rfl) (h2 : es.all notStar = true := by rfl)
    (hdb : (x == ("__debug__" : Str)) = false := by decide) : RE X (.Call (.Name x p) (e :: es) [] pos) (tCall sp [] E t) := ⟨qe_def D hr hg hx ha.ok hk h1 h2 hdb⟩
theorem r_make (D : Md X.prog X.w X.K X.mg X.base k x ps C sp) (hr : Room j X.A) (hg : Gl X x) (hx : Passes (CXE X.prog X.w) X E) (ha : RA X (e :: es) t) (hk : k + 1 ≤ j := by decide) (h1 : notStar e = true := by rfl) (h2 : es.all notStar = true := by rfl)
    (hdb : (x == ("__debug__" : Str)) = false := by decide) : RE X (.Call (.Name x p) (e :: es) [] pos) (tMake C sp [] E t) := ⟨qe_make D hr hg hx ha.ok hk h1 h2 hdb⟩
theorem r_callB (hc : CallR X (.builtin id) r) (hg : Gl X x) (hm : X.mg x = none) (hv : bootBuiltins x = some (.builtin id)) (ha : RA X (e :: es) t) (h1 : notStar e = true := by rfl) (h2 : es.all notStar = true := by rfl) (hn : x ≠ "__name__" := by decide)
    (hdb : (x == ("__debug__" : Str)) = false := by decide) : RE X (.Call (.Name x p) (e :: es) [] pos) (tCB r t) := ⟨qe_callB hc hg hm hv ha.ok h1 h2 hn hdb⟩
theorem r_callTy (hc : CallR X (.type T) r) (hg : Gl X x) (hm : X.mg x = none) (hv : bootBuiltins x = some (.type T)) (ha : RA X (e :: es) t) (h1 : notStar e = true := by rfl) (h2 : es.all notStar = true := by rfl) (hn : x ≠ "__name__" := by decide)
    (hdb : (x == ("__debug__" : Str)) = false := by decide) : RE X (.Call (.Name x p) (e :: es) [] pos) (tCB r t) := ⟨qe_callTy hc hg hm hv ha.ok h1 h2 hn hdb⟩
theorem few_of {env : Env} {cpos : Pos} : ∀ {es : List Expr}, es.all notStar = true → (backTo cpos (starEach es env)).all (fun x => !x.1) = true
  | [], _ => rfl
  | e :: es, h => by
    rw [List.all_cons, Bool.and_eq_true] at h
    rw [st_of h.1]
    show ((!false) && (backTo cpos (starEach es env)).all (fun x => !x.1)) = true
    rw [few_of h.2]; rfl
variable {name : Str} {apos cpos : Pos} {rm : V → List V → Hp → VK → Prop}
theorem r_bm (pa : PlainAttrs T) (slot : Slot T name id) (hty : typeOf (.builtin id) = pure (.type "method_descriptor")) (hm : MtR X id rm) (ho : RE X o to) (ha : RA X (e :: es) t) (h1 : (e :: es).all notStar = true := by rfl)
    (hbase : attributeBase o name X.env (eval o X.env) = eval o X.env := by rfl) (hlen : decide ((e :: es).length < 30) = true := by rfl) (hline : (apos.endLine == cpos.line) = true := by rfl) : RE X (.Call (.Attribute o name apos) (e :: es) [] cpos) (tBM X.K T rm to t) := by
  have h1' := h1
  rw [List.all_cons, Bool.and_eq_true] at h1'
  refine ⟨pe_bm pa slot hty hm ho.ok ha.ok hbase ?_ hline (st_of h1'.1) (np_of h1'.2)⟩
  rw [few_of h1]
  have : decide ((e :: es).length + ([] : List Keyword).length + (if ([] : List Keyword).isEmpty then 0 else 1) < 30) = true := by simpa using hlen
  rw [this]; rfl
theorem r_bm0 (pa : PlainAttrs T) (slot : Slot T name id) (hty : typeOf (.builtin id) = pure (.type "method_descriptor")) (hm : MtR X id rm) (ho : RE X o to)
    (hbase : attributeBase o name X.env (eval o X.env) = eval o X.env := by rfl) (hline : (apos.endLine == cpos.line) = true := by rfl) : RE X (.Call (.Attribute o name apos) [] [] cpos) (tBM0 X.K T rm to) := ⟨pe_bm0 pa slot hty hm ho.ok hbase hline⟩
end
section
variable {X : Cx} {tg l : Expr} {te : TE} {ta : TA} {p pos : Pos}
theorem ri_list (hl : RE X l te) : RI X tg l (iList X.K te) := ⟨pi_list hl.ok⟩
theorem ri_str (hl : RE X l te) : RI X tg l (iStr te) := ⟨pi_str hl.ok⟩
theorem ri_range1 {a : Expr} (hg : Gl X "range") (hm : X.mg "range" = none) (ha : RA X [a] ta) (hs : notStar a = true := by rfl) : RI X tg (.Call (.Name "range" p) [a] [] pos) (iRng1 ta) := ⟨pi_range1 hg hm ha.ok (st_of hs)⟩
theorem ri_range2 {a b : Expr} (hg : Gl X "range") (hm : X.mg "range" = none) (ha : RA X [a, b] ta) (hs : notStar a = true := by rfl) (hs2 : notStar b = true := by rfl) : RI X tg (.Call (.Name "range" p) [a, b] [] pos) (iRng2 ta) :=
  ⟨pi_range2 hg hm ha.ok (by rw [st_of hs, st_of hs2]; rfl) (st_of hs2)⟩
theorem rif_nil : RIf X [] tYes := ⟨pif_nil⟩
theorem rif_one {c : Expr} {t : TT} (h : RT X c t) : RIf X [c] t := ⟨pif_one h.ok⟩
theorem r_comp {x : Str} {px : Pos} {scope : Scope} {elt iter : Expr} {ifs : List Expr} {wi : TI} {tc : TT} (ok : compOk scope X.env.scope X.N x = true) (hc : X.calm = true) (hi : RI X (.Name x px) iter wi)
    (hif : ∀ s H ex, RIf (cxComp X x scope s H ex) ifs tc) (he : ∀ s H ex, RE (cxComp X x scope s H ex) elt te) (hs : ∀ v, foldedSetIterable iter X.env v = pure v := by intro _; rfl) :
    RE X (.ListComp elt [⟨.Name x px, iter, ifs, 0⟩] scope pos) (tComp wi tc te) := ⟨pe_comp ok hc hi.ok (fun s H ex => (hif s H ex).ok) (fun s H ex => (he s H ex).ok) hs⟩
end
section
variable {X : Cx} {st : Stmt} {rest body : List Stmt} {t u tb : TS} {e tg iter : Expr} {te : TE} {pos : Pos} {i : Nat} {x : Str}
theorem rss_nil : RSs X [] tNext := ⟨pss_nil⟩
theorem rss_cons (h1 : RS X st t) (h2 : RSs X rest u) : RSs X (st :: rest) (tSeq t u) := ⟨pss_cons h1.ok h2.ok⟩
theorem rss_one (h1 : RS X st t) : RSs X [st] t := ⟨pss_one h1.ok⟩
theorem rs_expr (he : RE X e te) (hs : notComp e = true := by rfl) : RS X (.Expr e pos) (tDrop te) := ⟨ps_expr he.ok (sw_of hs)⟩
theorem rs_ret (he : RE X e te) : RS X (.Return (some e) pos) (tRet te) := ⟨ps_ret he.ok⟩
theorem rs_if {c : Expr} {a b : List Stmt} {tc : TT} (hc : RT X c tc) (ha : RSs X a t) (hb : RSs X b u) : RS X (.If c a b pos) (tIfS tc t u) := ⟨ps_if hc.ok ha.ok hb.ok⟩
theorem rg_name (hN : X.N.Nodup) (hi : X.N[i]? = some x) (hx : Loc X.env.scope x) (hf : X.fn x = true ∨ X.env.scope.names.lookup x = some .local := by first | exact .inl rfl | exact .inr rfl | assumption) : RG X (.Name x pos) (gName i) := ⟨pg_name hN hi hx hf⟩
theorem rgs_nil : RGs X [] gNil := ⟨pgs_nil⟩
def noStarT : Expr → Bool
  | .Name _ _ => true
  | .Subscript _ _ _ => true
  | _ => false
theorem as_of {es : List Expr} {env : Env} (h : noStarT e = true) : (assignEach (e :: es) env).map (·.2) = assign e env :: (assignEach es env).map (·.2) := by
  cases e <;> first | rfl | cases h
theorem rgs_cons {es : List Expr} {t : TG} {u : TGs} (h1 : RG X e t) (h2 : RGs X es u) (hs : noStarT e = true := by rfl) : RGs X (e :: es) (gCons t u) := ⟨pgs_cons h1.ok h2.ok (as_of hs)⟩
theorem rg_tup {es : List Expr} {k : Nat} {t : TGs} {n : Nat} (hc : X.calm = true) (h : RGs X es t) (hn : (assignEach es X.env).length = n := by rfl) (hst : (assignEach es X.env).findIdx? (·.1) = none := by rfl) : RG X (.Tuple es k pos) (gTup X.K n t) := ⟨pg_tup hc h.ok hn hst⟩
theorem rg_sub {o i : Expr} {to ti : TE} {t : TSet} (ho : RE X o to) (hi : RE X i ti) (hs : PSet X t) (ha : ∀ v, assign (.Subscript o i pos) X.env v = (do
      let ov ← holding [v] (eval o X.env)
      let iv ← holding [v, ov] (eval i X.env)
      standAt pos
      holding [v, ov, iv] (setItem ov iv v)
      release [v, ov, iv] []) := by intro _; rfl) : RG X (.Subscript o i pos) (gSub to ti t) := ⟨pg_sub ho.ok hi.ok hs ha⟩
theorem rs_asg {g : TG} (he : RE X e te) (hg : RG X tg g) (hs : swapsWithSole [tg] e pos.line X.env = pure false := by rfl) (hw : swappedStores [tg] e X.env = pure none := by rfl) (h1 : (assignEach [tg] X.env).map (·.2) = [assign tg X.env] := by rfl) : RS X (.Assign [tg] e pos) (tAsg te g) := ⟨ps_asg he.ok hg.ok hs hw h1⟩
theorem rs_set {pos' : Pos} (hN : X.N.Nodup) (hi : X.N[i]? = some x) (hx : Loc X.env.scope x) (he : RE X e te) (hs : notComp e = true := by rfl) (hf : X.fn x = true ∨ X.env.scope.names.lookup x = some .local := by first | exact .inl rfl | exact .inr rfl | assumption) :
    RS X (.Assign [.Name x pos'] e pos) (tAsg te (gName i)) := ⟨ps_set hN hi hx he.ok (sw_of hs) hf⟩
theorem rs_par {j : Nat} {y : Str} {a b : Expr} {ta : TA} {px py pt : Pos} {kt k2 pt2} (hc : X.calm = true) (hN : X.N.Nodup) (hi : X.N[i]? = some x) (hj : X.N[j]? = some y) (hij : i ≠ j)
    (hx : X.env.scope.names.lookup x = some .local) (hy : X.env.scope.names.lookup y = some .local) (ha : RA X [a, b] ta) (hw : swappedStores [.Tuple [.Name x px, .Name y py] kt pt] (.Tuple [a, b] k2 pt2) X.env = pure (some [x, y])) :
    RS X (.Assign [.Tuple [.Name x px, .Name y py] kt pt] (.Tuple [a, b] k2 pt2) pos) (tPar i j ta) := ⟨ps_par hc hN hi hj hij hx hy ha.ok hw⟩
theorem rs_for {wi : TI} {g : TG} (hp : PassesOwn (model X.prog X.w) X.A X.env X.xe) (hc : X.calm = true) (hi : RI X tg iter wi) (hg : RG X tg g) (hb : RSs X body tb) (hs : ∀ x, foldedSetIterable iter X.env x = pure x := by intro _; rfl) :
    RS X (.For tg iter body [] pos) (tFor wi g tb) := ⟨ps_for hp hc hi.ok hg.ok hb.ok hs⟩
theorem rs_while {c : Expr} {tc : TT} (hp : PassesOwn (model X.prog X.w) X.A X.env X.xe) (hc : RT X c tc) (hb : RSs X body tb) : RS X (.While c body [] pos) (tWhile tc tb) := ⟨ps_while hp hc.ok hb.ok⟩
theorem rs_fld {o value : Expr} {f : Str} {ta tv : TE} {pos' : Pos} (ha : RE X o ta) (hv : RE X value tv) (hs : notComp value = true := by rfl) : RS X (.Assign [.Attribute o f pos'] value pos) (sFld X.K ta tv f) := ⟨ps_fld ha.ok hv.ok (sw_of hs)⟩
theorem rs_comp {y : Str} {py px spos : Pos} {scope : Scope} {elt : Expr} {ifs : List Expr} {wi : TI} {tc : TT} (hN : X.N.Nodup) (hiy : X.N[i]? = some y) (hy : X.env.scope.names.lookup y = some .local)
    (ok : compOk scope X.env.scope X.N x = true) (hc : X.calm = true) (hi : RI X (.Name x px) iter wi) (hif : ∀ s H ex, RIf (cxComp X x scope s H ex) ifs tc) (he : ∀ s H ex, RE (cxComp X x scope s H ex) elt te)
    (hsw : swapsWith (.ListComp elt [⟨.Name x px, iter, ifs, 0⟩] scope pos) (some (.Name y py)) spos.line X.env = pure true := by rfl) (hs : ∀ v, foldedSetIterable iter X.env v = pure v := by intro _; rfl) :
    RS X (.Assign [.Name y py] (.ListComp elt [⟨.Name x px, iter, ifs, 0⟩] scope pos) spos) (tCompS i wi tc te) := ⟨ps_comp hN hiy hy ok hc hi.ok (fun s H ex => (hif s H ex).ok) (fun s H ex => (he s H ex).ok) hsw hs⟩
theorem RS.nox (h : RS X.nox st t) : RS X st t := ⟨PS.nox h.ok⟩
theorem RT.nox {tt : TT} (h : RT X.nox e tt) : RT X e tt := ⟨PT.nox h.ok⟩
end
section
variable {P : Program} {w : World} {K : PySem.W.Frag} {mg : Str → Option Value} {base : Heap} {N : List Str} {qual : Str} {scope : Scope} {f : Addr} {cd : Value} {A : Around} {outer : List Env} {s0 : Shared} {H0 : Hp} {E : XK}
theorem rs_raise {x : Str} {np cpos pos : Pos} {e₀ : Expr} {rest : List Expr} {t : TA} {C : Addr} (c : ErrCls K C) (hg : Gl (cxOf (CXE P w) P w K mg base N qual scope f cd A outer s0 H0 E) x) (hm : mg x = some (.ref C)) (hh : A.handled = none)
    (ha : RA (cxOf (CXE P w) P w K mg base N qual scope f cd A outer s0 H0 E) (e₀ :: rest) t) (h1 : notStar e₀ = true := by rfl) (h2 : rest.all notStar = true := by rfl) (hd : (x == ("__debug__" : Str)) = false := by decide) :
    RS (cxOf (CXE P w) P w K mg base N qual scope f cd A outer s0 H0 E) (.Raise (some (.Call (.Name x np) (e₀ :: rest) [] cpos)) none pos) (tRaise t C E) := ⟨ps_raise c hg hm hh ha.ok hd (st_of h1) (np_of h2)⟩
theorem Fun.rokE {x qual : Str} {st : Stmt} {f : Addr} {fd : FuncData} {N ps : List Str} {k : Nat} {sp : Sp} (F : Fun K x qual st f fd) (S : FnScope N ps (defScope st)) (len : ∀ vs H Q E, sp vs H Q E → vs.length = ps.length)
    (hbody : ∀ (cdv : Value) (A : Around) (outer : List Env) (s : Shared) (H : Hp) (vs : List V) (Q : VK) (E : XK), Room k (A.deeper (envOfC qual (defScope st) s.heap.objs.size f cdv)) → sp vs H Q E →
      ∃ t, RSs (cxOf (CXE P w) P w K mg base N qual (defScope st) f cdv A outer s H E) (defBody st) t ∧ t { nx := fun _ H' => Q .non H', rt := Q } (start N vs) H) : FnOk P w K mg base (CXE P w) (k + 1) f fd ps sp :=
  F.okE S len fun cdv A outer s H vs Q E hr hsp => let ⟨t, h, q⟩ := hbody cdv A outer s H vs Q E hr hsp; ⟨t, h.ok, q⟩
theorem Fun.rok {x qual : Str} {st : Stmt} {f : Addr} {fd : FuncData} {N ps : List Str} {k : Nat} {sp : Sp} (F : Fun K x qual st f fd) (S : FnScope N ps (defScope st)) (len : ∀ vs H Q E, sp vs H Q E → vs.length = ps.length)
    (hbody : ∀ (cdv : Value) (A : Around) (outer : List Env) (s : Shared) (H : Hp) (vs : List V) (Q : VK) (E : XK), Room k (A.deeper (envOfC qual (defScope st) s.heap.objs.size f cdv)) → sp vs H Q E →
      ∃ t, RSs (cxOf (CXE P w) P w K mg base N qual (defScope st) f cdv A outer s H E).nox (defBody st) t ∧ t { nx := fun _ H' => Q .non H', rt := Q } (start N vs) H) : FnOk P w K mg base (CXE P w) (k + 1) f fd ps sp :=
  F.ok0 S len fun cdv A outer s H vs Q E hr hsp => let ⟨t, h, q⟩ := hbody cdv A outer s H vs Q E hr hsp; ⟨t, h.ok, q⟩
end
end L2
set_option Elab.async false
set_option linter.all false
set_option maxRecDepth 100000
namespace L2
open PySem PySem.Spec PyProof.Rows
mutual
theorem Den.mono {K : PySem.W.Frag} {H H' : Hp} (s : Same H H') : ∀ {v : V} {d : Dt}, Den K H v d → Den K H' v d
  | _, _, .non => .non
  | _, _, .bl b => .bl b
  | _, _, .int i => .int i
  | _, _, .str x => .str x
  | _, _, .tup h hs => .tup (s _ _ h) (Dens.mono s hs)
  | _, _, .lst h hs => .lst (s.seq h) (Dens.mono s hs)
theorem Dens.mono {K : PySem.W.Frag} {H H' : Hp} (s : Same H H') : ∀ {vs : List V} {ds : List Dt}, Dens K H vs ds → Dens K H' vs ds
  | _, _, .nil => .nil
  | _, _, .cons h t => .cons (Den.mono s h) (Dens.mono s t)
end
theorem Dens.snoc {K : PySem.W.Frag} {H : Hp} {vs : List V} {ds : List Dt} {v : V} {d : Dt} (h : Dens K H vs ds) (h1 : Den K H v d) : Dens K H (vs ++ [v]) (ds ++ [d]) := h.append (.cons h1 .nil)
theorem Dens.strs {K : PySem.W.Frag} {H : Hp} : ∀ zs : List Str, Dens K H (zs.map V.str) (zs.map Dt.str)
  | [] => .nil
  | z :: zs => .cons (.str z) (Dens.strs zs)
theorem Dens.of_bls {K : PySem.W.Frag} {H : Hp} : ∀ {bs : List Bool} {vs : List V}, Dens K H vs (bs.map Dt.bl) → vs = bs.map V.bl
  | [], _, .nil => rfl
  | n :: ns, _, .cons h t => by cases h; rw [Dens.of_bls t]; rfl
structure ItOver (J : It) (H : Hp) (vs : List V) : Prop where
  go : ∀ H' i, Same H H' → i < vs.length → J.go i H'
  yld : ∀ H' i v H'', Same H H' → i < vs.length → J.yld i H' v H'' → vs[i]? = some v ∧ H'' = H'
  stop : ∀ H', Same H H' → J.stop vs.length H'
theorem over_list {K : PySem.W.Frag} {H : Hp} {a : Addr} {vs : List V} (h : SqL K H a vs) : ItOver (Itl K a) H vs :=
  ⟨fun H' i s hi => ⟨vs, vs[i], s.seq h, by simp [hi]⟩, fun H' i v H'' s hi y => ⟨y.2 vs (s.seq h), y.1⟩, fun H' s => ⟨vs, s.seq h, Nat.le_refl _⟩⟩
theorem over_range {H : Hp} (lo : Int) (n : Nat) : ItOver (Itr lo n) H (((List.range n).map fun i : Nat => lo + (i : Int)).map V.int) := by
  have hl : (((List.range n).map fun i : Nat => lo + (i : Int)).map V.int).length = n := by simp
  refine ⟨fun H' i _ hi => ?_, fun H' i v H'' _ hi y => ⟨?_, y.1⟩, fun H' _ => ?_⟩
  · rw [hl] at hi; exact hi
  · rw [hl] at hi
    rw [y.2]
    simp [hi]
  · rw [hl]; exact Nat.le_refl _
theorem over_str {H : Hp} (z : Str) : ItOver (Its z) H ((z.cps.toList.map fun c => (⟨#[c]⟩ : Str)).map V.str) := by
  have hl : ((z.cps.toList.map fun c => (⟨#[c]⟩ : Str)).map V.str).length = z.cps.size := by simp
  refine ⟨fun H' i _ hi => ?_, fun H' i v H'' _ hi y => ?_, fun H' _ => ?_⟩
  · rw [hl] at hi; exact hi
  · rw [hl] at hi
    obtain ⟨e, c, ec, y⟩ := y
    have : z.cps.toList[i]? = some c := by simpa using ec
    exact ⟨by rw [y]; simp [this], e⟩
  · rw [hl]; exact Nat.le_refl _
theorem comp_den {α : Type} {K : PySem.W.Frag} {J : It} {H : Hp} {vs : List V} {xs : List α} {enc : α → Dt} {tc : TT} {te : TE} {σ : St} {fin : List V → Hp → Prop} (hJ : ItOver J H vs) (hx : Dens K H vs (xs.map enc)) (hn : xs.length ≤ sizeLine) (p : α → Bool) (f : α → Dt)
    (ht : ∀ a ∈ xs, ∀ v H', Same H H' → Den K H' v (enc a) → ∀ G : Bool → Hp → Prop, (∀ H'', Same H' H'' → G (p a) H'') → tc (some v :: σ) H' G)
    (hf : ∀ a ∈ xs, p a = true → ∀ v H', Same H H' → Den K H' v (enc a) → ∀ G : VK, (∀ y H'', Same H' H'' → Den K H'' y (f a) → G y H'') → te (some v :: σ) H' G)
    (hd : ∀ ys H', Same H H' → Dens K H' ys ((xs.filter p).map f) → fin ys H') : ∃ W : Nat → Nat → List V → Hp → Prop, (∃ m, W 0 m [] H) ∧ CompW J tc te σ fin W := by
  have hlv : vs.length = xs.length := by rw [hx.length, List.length_map]
  refine comp_by (n := vs.length) (item := fun i => vs.getD i .non) (fun i ys H' => Same H H' ∧ Dens K H' ys (((xs.take i).filter p).map f)) (by rw [hlv]; exact hn) (fun i ys H' hi r => hJ.go H' i r.1 hi) (fun i ys H' v H'' hi r y => ?_) (fun ys H' r => hJ.stop H' r.1)
    (fun i ys H' hi r => ?_) ⟨Same.refl _, .nil⟩ (fun i ys H' hi r G hG => ?_) (fun ys H' r => ?_)
  · obtain ⟨e, e'⟩ := hJ.yld H' i v H'' r.1 hi y
    exact ⟨by rw [List.getD_eq_getElem?_getD, e]; rfl, e'⟩
  · rw [r.2.length, List.length_map]
    exact Nat.le_trans (List.length_filter_le _ _) (by rw [List.length_take]; exact Nat.min_le_left _ _)
  · obtain ⟨s1, D⟩ := r
    have hi' : i < xs.length := by omega
    have ev : vs[i]? = some (vs.getD i .non) := by simp [List.getD_eq_getElem?_getD, hi]
    obtain ⟨d, ed, dv⟩ := hx.get ev
    have ea : d = enc xs[i] := by
      rw [List.getElem?_map, List.getElem?_eq_getElem hi'] at ed
      exact (Option.some.inj ed).symm
    subst ea
    have tk : xs.take (i + 1) = xs.take i ++ [xs[i]] := by rw [List.take_succ, List.getElem?_eq_getElem hi']; rfl
    refine ht xs[i] (List.getElem_mem hi') _ H' s1 (dv.mono s1) _ fun H2 s2 => ?_
    cases hp : p xs[i] with
    | false =>
      refine iteF (hG _ _ ⟨s1.trans s2, ?_⟩)
      rw [tk, List.filter_append, show List.filter p [xs[i]] = [] by simp [hp], List.append_nil]
      exact D.mono s2
    | true =>
      refine iteT (hf xs[i] (List.getElem_mem hi') hp _ H2 (s1.trans s2) (dv.mono (s1.trans s2)) _ fun y H3 s3 dy => hG _ _ ⟨(s1.trans s2).trans s3, ?_⟩)
      rw [tk, List.filter_append, show List.filter p [xs[i]] = [xs[i]] by simp [hp], List.map_append]
      exact (D.mono (s2.trans s3)).append (.cons dy .nil)
  · rw [hlv, List.take_length] at r
    exact hd ys H' r.1 r.2
theorem comp_map {α : Type} {K : PySem.W.Frag} {J : It} {H : Hp} {vs : List V} {xs : List α} {enc : α → Dt} {te : TE} {σ : St} {fin : List V → Hp → Prop} (hJ : ItOver J H vs) (hx : Dens K H vs (xs.map enc)) (hn : xs.length ≤ sizeLine) (f : α → Dt)
    (hf : ∀ a ∈ xs, ∀ v H', Same H H' → Den K H' v (enc a) → ∀ G : VK, (∀ y H'', Same H' H'' → Den K H'' y (f a) → G y H'') → te (some v :: σ) H' G)
    (hd : ∀ ys H', Same H H' → Dens K H' ys (xs.map f) → fin ys H') : ∃ W : Nat → Nat → List V → Hp → Prop, (∃ m, W 0 m [] H) ∧ CompW J tYes te σ fin W :=
  comp_den hJ hx hn (fun _ => true) f (fun a _ v H' _ _ G hG => hG H' (Same.refl _)) (fun a ha _ => hf a ha) fun ys H' s D => hd ys H' s (by rw [List.filter_eq_self.mpr (fun _ _ => rfl)] at D; exact D)
end L2
set_option Elab.async false
set_option linter.all false
set_option maxRecDepth 100000
namespace L2
open PySem PySem.Spec PyProof.Rows
section
variable {X : Cx} {K : PySem.W.Frag}
theorem k_eqD (hu : X.A.units + 60 < cLine) (hK : X.K = K := by rfl) : OpR X (compareOp .Eq) (rEqD K false) := by subst hK; exact op_eqD hu
theorem k_neD (hu : X.A.units + 60 < cLine) (hK : X.K = K := by rfl) : OpR X (compareOp .NotEq) (rEqD K true) := by subst hK; exact op_neD hu
theorem k_inD (hu : X.A.units + 61 < cLine) (hK : X.K = K := by rfl) : OpR X (compareOp .In) (rInD K false) := by subst hK; exact op_inD hu
theorem k_notInD (hu : X.A.units + 61 < cLine) (hK : X.K = K := by rfl) : OpR X (compareOp .NotIn) (rInD K true) := by subst hK; exact op_notInD hu
theorem k_ix (hK : X.K = K := by rfl) : IxR X (rIx K) := by subst hK; exact ix_seq
def rLenG (K : PySem.W.Frag) : List V → Hp → VK → Prop := fun xs H Q => (∃ p ys, xs = [.ref p] ∧ (SqL K H p ys ∨ SqT K H p ys) ∧ Q (.int ys.length) H) ∨ (∃ z, xs = [.str z] ∧ z.length ≤ sizeLine ∧ Q (.int z.length) H)
theorem k_len (hK : X.K = K := by rfl) : CallR X (.builtin "len") (rLenG K) := by subst hK; exact call_len_seq.or call_len_str
def rSlG (K : PySem.W.Frag) : V → Option Int → Option Int → Hp → VK → Prop := fun x lo hi H Q => rSlL K x lo hi H Q ∨ rSlS x lo hi H Q
theorem k_sl (hK : X.K = K := by rfl) : SlR X (rSlG K) := by subst hK; exact sl_list.or sl_str
def rListOf (K : PySem.W.Frag) : List V → Hp → VK → Prop := fun xs H Q => ∃ p ys, xs = [.ref p] ∧ (SqL K H p ys ∨ SqT K H p ys) ∧ ∀ l, H l = none → Q (.ref l) (upd H l (.lst ys))
theorem k_list (hK : X.K = K := by rfl) : CallR X (.type "list") (rListOf K) := by subst hK; exact call_list_of
def rAll (K : PySem.W.Frag) : List V → Hp → VK → Prop := fun xs H Q => ∃ (p : Addr) (bs : List Bool), xs = [.ref p] ∧ SqL K H p (bs.map V.bl) ∧ Q (.bl (bs.all id)) H
theorem k_all (hc : X.calm = true) (hK : X.K = K := by rfl) : CallR X (.builtin "all") (rAll K) := by subst hK; exact call_all hc
theorem k_join (hK : X.K = K := by rfl) : MtR X "str.join" (rJoin K) := by subst hK; exact mt_join
end
section
variable {X : Cx} {K : PySem.W.Frag} {tg l e o : Expr} {es : List Expr} {te ta to : TE} {t : TA} {pos apos cpos : Pos} {f name : Str} {T id : String} {rm : V → List V → Hp → VK → Prop}
theorem kri_list (hl : RE X l te) (hK : X.K = K := by rfl) : RI X tg l (iList K te) := by subst hK; exact ri_list hl
theorem kr_fld (he : RE X e ta) (hK : X.K = K := by rfl) (hb : attributeBase e f X.env (eval e X.env) = eval e X.env := by rfl) : RE X (.Attribute e f pos) (tFld K ta f) := by subst hK; exact r_fld he hb
theorem kr_bm (pa : PlainAttrs T) (slot : Slot T name id) (hty : typeOf (.builtin id) = pure (.type "method_descriptor")) (hm : MtR X id rm) (ho : RE X o to) (ha : RA X (e :: es) t) (hK : X.K = K := by rfl) (h1 : (e :: es).all notStar = true := by rfl)
    (hbase : attributeBase o name X.env (eval o X.env) = eval o X.env := by rfl) (hlen : decide ((e :: es).length < 30) = true := by rfl) (hline : (apos.endLine == cpos.line) = true := by rfl) : RE X (.Call (.Attribute o name apos) (e :: es) [] cpos) (tBM K T rm to t) := by
  subst hK; exact r_bm pa slot hty hm ho ha h1 hbase hlen hline
theorem kr_bm0 (pa : PlainAttrs T) (slot : Slot T name id) (hty : typeOf (.builtin id) = pure (.type "method_descriptor")) (hm : MtR X id rm) (ho : RE X o to) (hK : X.K = K := by rfl)
    (hbase : attributeBase o name X.env (eval o X.env) = eval o X.env := by rfl) (hline : (apos.endLine == cpos.line) = true := by rfl) : RE X (.Call (.Attribute o name apos) [] [] cpos) (tBM0 K T rm to) := by
  subst hK; exact r_bm0 pa slot hty hm ho hbase hline
end
theorem bt_len : bootBuiltins "len" = some (.builtin "len") := by decide +kernel
theorem bt_all : bootBuiltins "all" = some (.builtin "all") := by decide +kernel
theorem bt_sorted : bootBuiltins "sorted" = some (.builtin "sorted") := by decide +kernel
theorem bt_min : bootBuiltins "min" = some (.builtin "min") := by decide +kernel
theorem bt_max : bootBuiltins "max" = some (.builtin "max") := by decide +kernel
theorem bt_str : bootBuiltins "str" = some (.type "str") := by decide +kernel
theorem bt_list : bootBuiltins "list" = some (.type "list") := by decide +kernel
theorem bt_set : bootBuiltins "set" = some (.type "set") := by decide +kernel
end L2
set_option Elab.async false
set_option linter.all false
set_option maxRecDepth 100000
namespace L2
open PySem PySem.Spec PyProof.Rows
theorem seq_mid {t u : TS} {D : Ends} {σ : L2.St} {H : Hp} (Mid : L2.St → Hp → Prop) (h : ∀ R : L2.St → Hp → Prop, (∀ σ' H', Mid σ' H' → R σ' H') → t { D with nx := R } σ H) (k : ∀ σ' H', Mid σ' H' → u D σ' H') : tSeq t u D σ H := h (u D) k
theorem tyes {A Bq : Hp → Prop} {σ : L2.St} {H : Hp} (h : A H) : tYes σ H (fun b H2 => if b = true then A H2 else Bq H2) := by
  show if true = true then A H else Bq H
  rw [if_pos rfl]; exact h
theorem sz {n : Nat} (h : Nat.ble n 10000 = true) : n ≤ sizeLine := small (Nat.le_of_ble_eq_true h)
theorem dec_v {i j : Int} : decide (V.int i = V.int j) = decide (i = j) := by simp
theorem atI_zero {α : Type} {x : α} {xs : List α} : atI (x :: xs) 0 = some x := atI_nat (j := 0) rfl
theorem hd_of {A : Around} {k : Nat} {env : Env} (hr : Room k (A.deeper env)) : A.handled = none := hr.hd
theorem ite_b {b : Bool} {A Bq : Prop} (h1 : b = true → A) (h2 : b = false → Bq) : if b = true then A else Bq := by
  cases b with
  | true => exact iteT (h1 rfl)
  | false => exact iteF (h2 rfl)
theorem chain_ltV {l n m : Int} {te : TE} {σ : L2.St} {H : Hp} {G : VK} (he : ∀ Q' : VK, Q' (.int m) H → te σ H Q') (hg : G (.bl (decide (l ≤ n ∧ n < m))) H) :
    if decide (l ≤ n) = true then te σ H (fun w' H4 => rI0 (fun i j => .bl (decide (i < j))) (.int n) w' H4 G) else G (.bl false) H := by
  refine ite2 (fun h1 => he _ ⟨_, _, rfl, rfl, ?_⟩) (fun h1 => ?_)
  · have h1' := of_decide_eq_true h1
    have e : decide (l ≤ n ∧ n < m) = decide (n < m) := by simp [h1']
    show G (.bl (decide (n < m))) H
    rw [← e]; exact hg
  · have e : decide (l ≤ n ∧ n < m) = false := decide_eq_false fun h => h1 (decide_eq_true h.1)
    rw [← e]; exact hg
abbrev Cell := Int × Int
def cellD (x : Cell) : Dt := .tup [.int x.1, .int x.2]
theorem eqD_cell (a b : Cell) : eqD (cellD a) (cellD b) = decide (a = b) := by
  have e1 : eqD (.int a.1) (.int b.1) = decide (a.1 = b.1) := by rw [eqD_flat rfl rfl]; exact (Bool.beq_eq_decide_eq _ _)
  have e2 : eqD (.int a.2) (.int b.2) = decide (a.2 = b.2) := by rw [eqD_flat rfl rfl]; exact (Bool.beq_eq_decide_eq _ _)
  show (eqD (.int a.1) (.int b.1) && (eqD (.int a.2) (.int b.2) && true)) = _
  rw [e1, e2, Bool.and_true]
  by_cases h1 : a.1 = b.1 <;> by_cases h2 : a.2 = b.2 <;> simp [h1, h2, Prod.ext_iff]
theorem dep_cell (a : Cell) : depD (cellD a) ≤ 50 := Nat.le_of_ble_eq_true rfl
theorem any_cell (x : Cell) : ∀ cs : List Cell, ((cs.map cellD).any fun e => eqD e (cellD x)) = decide (x ∈ cs)
  | [] => by simp
  | c :: cs => by
    rw [List.map_cons, List.any_cons, eqD_cell, any_cell x cs]
    by_cases h : c = x <;> by_cases h2 : x ∈ cs <;> simp [h, h2, eq_comm]
    intro e; exact absurd e.symm h
def Ls (K : PySem.W.Frag) (H : Hp) (p : Addr) (ds : List Dt) : Prop := ∃ xs, H p = some (.lst xs) ∧ Dens K H xs ds
theorem Ls.den {K : PySem.W.Frag} {H : Hp} {p : Addr} {ds : List Dt} (h : Ls K H p ds) : Den K H (.ref p) (.lst ds) := let ⟨_, e, D⟩ := h; .lst (SqL.of e) D
theorem Ls.mono {K : PySem.W.Frag} {H H' : Hp} {p : Addr} {ds : List Dt} (h : Ls K H p ds) (s : Same H H') : Ls K H' p ds := let ⟨xs, e, D⟩ := h; ⟨xs, s _ _ e, D.mono s⟩
theorem Ls.new {K : PySem.W.Frag} {H : Hp} {p : Addr} {xs : List V} {ds : List Dt} (hp : H p = none) (D : Dens K H xs ds) : Ls K (upd H p (.lst xs)) p ds := ⟨xs, upd_same, D.mono (Same.put hp)⟩
structure Fr (K : PySem.W.Frag) (H H' : Hp) (p : Addr) (ds : List Dt) : Prop where
  same : Same H H'
  new : H p = none
  ls : Ls K H' p ds
theorem cell_ref {K : PySem.W.Frag} {H : Hp} {v : V} {x : Cell} (h : Den K H v (cellD x)) : ∃ a, v = .ref a ∧ SqT K H a [.int x.1, .int x.2] ∧ H a = some (.tup [.int x.1, .int x.2]) := by
  cases h with
  | tup ht hs =>
    cases hs with
    | cons h1 hs =>
      cases hs with
      | cons h2 hs =>
        cases hs; cases h1; cases h2
        exact ⟨_, rfl, SqT.of ht, ht⟩
theorem den_cell {K : PySem.W.Frag} {H : Hp} {p : Addr} {a b : Int} : Den K (upd H p (.tup [.int a, .int b])) (.ref p) (cellD (a, b)) := .tup upd_same (.cons (.int _) (.cons (.int _) .nil))
section
variable {K : PySem.W.Frag} {H : Hp} {v : V} {x : Cell} {p : Addr} {cs : List Cell} {Q : VK}
theorem rd_fst (d : Den K H v (cellD x)) (q : Q (.int x.1) H) : rIx K v (.int 0) H Q := by
  obtain ⟨a, rfl, h, _⟩ := cell_ref d
  exact .inr (.inl ⟨a, _, _, _, rfl, rfl, h, atI_zero, q⟩)
theorem rd_snd (d : Den K H v (cellD x)) (q : Q (.int x.2) H) : rIx K v (.int 1) H Q := by
  obtain ⟨a, rfl, h, _⟩ := cell_ref d
  exact .inr (.inl ⟨a, _, _, _, rfl, rfl, h, atI_nat (j := 1) rfl, q⟩)
theorem rd_in (d : Den K H v (cellD x)) (h : Den K H (.ref p) (.lst (cs.map cellD))) (q : Q (.bl (decide (x ∈ cs))) H) : rInD K false v (.ref p) H Q := by
  refine ⟨cellD x, cs.map cellD, p, rfl, d, .inl h, fun e he => ?_, ?_⟩
  · obtain ⟨c, _, rfl⟩ := List.mem_map.mp he
    exact ⟨rfl, dep_cell c⟩
  · show Q (.bl ((cs.map cellD).any fun e => eqD e (cellD x))) H
    rw [any_cell]; exact q
theorem rd_notin (d : Den K H v (cellD x)) (h : Den K H (.ref p) (.lst (cs.map cellD))) (q : Q (.bl (!decide (x ∈ cs))) H) : rInD K true v (.ref p) H Q := by
  refine ⟨cellD x, cs.map cellD, p, rfl, d, .inl h, fun e he => ?_, ?_⟩
  · obtain ⟨c, _, rfl⟩ := List.mem_map.mp he
    exact ⟨rfl, dep_cell c⟩
  · show Q (.bl (!(cs.map cellD).any fun e => eqD e (cellD x))) H
    rw [any_cell]; exact q
theorem rd_cat {q' : Addr} {ds es : List Dt} (h : Ls K H p ds) (h2 : Ls K H q' es) (hz : ds.length + es.length ≤ 10000) (q : ∀ r H', Fr K H H' r (ds ++ es) → Q (.ref r) H') : rAddG (.ref p) (.ref q') H Q := by
  obtain ⟨xs, e, D⟩ := h
  obtain ⟨ys, e2, D2⟩ := h2
  exact ⟨xs, ys, e, e2, by rw [D.length, D2.length]; exact small hz, fun r hr => q r _ ⟨Same.put hr, hr, .new hr (D.append D2)⟩⟩
end
def inF (h w : Int) (x : Cell) : Prop := (0 ≤ x.1 ∧ x.1 < h) ∧ (0 ≤ x.2 ∧ x.2 < w)
instance (h w : Int) (x : Cell) : Decidable (inF h w x) := by unfold inF; infer_instance
def offs : List Cell := [(-1, -1), (-1, 0), (-1, 1), (0, -1), (0, 1), (1, -1), (1, 0), (1, 1)]
def lnear (h w : Int) (x : Cell) : List Cell := (offs.map fun d => (x.1 + d.1, x.2 + d.2)).filter fun y => decide (inF h w y)
def fieldL (h w : Nat) : List Cell := (List.range h).flatMap fun r : Nat => (List.range w).map fun c : Nat => ((r : Int), (c : Int))
def figN (h w : Int) (st : List Cell) (x : Cell) : Nat := ((lnear h w x).filter fun y => decide (y ∈ st)).length
def inS (sg : Str) (c : Nat) : Bool := !(Builtin.Str.occurrences sg ⟨#[c]⟩ 0 sg.length 1).isEmpty
def codeAt (zs : List Str) (x : Nat × Nat) : Nat := (zs.getD x.1 Str.empty).cps.getD x.2 0
structure Rect (zs : List Str) (w : Nat) : Prop where
  ne : 1 ≤ zs.length
  le : zs.length ≤ 6
  w1 : 1 ≤ w
  w6 : w ≤ 6
  len : ∀ z ∈ zs, z.length = w
theorem Rect.head {zs : List Str} {w : Nat} (h : Rect zs w) : ∃ z zt, zs = z :: zt ∧ z.length = w := by
  cases zs with
  | nil => exact absurd h.ne (by decide)
  | cons z zt => exact ⟨z, zt, rfl, h.len z List.mem_cons_self⟩
end L2
set_option Elab.async false
set_option linter.all false
set_option maxRecDepth 100000
namespace L2
open PySem PySem.Spec PyProof.Rows
def SameBut (p : Addr) (H H' : Hp) : Prop := ∀ b o, H b = some o → b ≠ p → H' b = some o
theorem SameBut.refl (p : Addr) (H : Hp) : SameBut p H H := fun _ _ e _ => e
theorem SameBut.trans {p : Addr} {H H1 H2 : Hp} (a : SameBut p H H1) (b : SameBut p H1 H2) : SameBut p H H2 := fun c o e n => b c o (a c o e n) n
theorem Same.but {H H' : Hp} (s : Same H H') (p : Addr) : SameBut p H H' := fun b o e _ => s b o e
theorem SameBut.put {p : Addr} {H H' : Hp} {o : HO} (s : SameBut p H H') : SameBut p H (upd H' p o) := fun b u e n => by rw [upd_ne n]; exact s b u e n
theorem SameBut.and {p q : Addr} {H H' : Hp} {o : HO} (s : SameBut p H H') (hq : H' q = none) : SameBut p H (upd H' q o) := fun b u e n => (Same.put hq) b u (s b u e n)
theorem SameBut.of {p : Addr} {H H0 H' : Hp} (s : SameBut p H0 H') (a : Same H H0) (np : H p = none) : Same H H' := fun b o e => s b o (a b o e) (ne_of_none e np)
section
variable {K : PySem.W.Frag} {p : Addr} {H H' : Hp} {l : List V}
theorem SameBut.tup {a : Addr} {xs : List V} (s : SameBut p H H') (hp : H p = some (.lst l)) (h : SqT K H a xs) : SqT K H' a xs := by
  rcases h with (h | ⟨o, h⟩) | h
  · exact .inl (.inl (s _ _ h (ne_of h hp (by intro z; cases z))))
  · exact .inl (.inr ⟨o, s _ _ h (ne_of h hp (by intro z; cases z))⟩)
  · exact .inr h
theorem SameBut.seq {a : Addr} {xs : List V} (s : SameBut p H H') (ha : H a = some (.lst xs)) (n : a ≠ p) : SqL K H' a xs := SqL.of (s _ _ ha n)
theorem SameBut.cell {v : V} {x : Cell} (s : SameBut p H H') (hp : H p = some (.lst l)) (h : Den K H v (cellD x)) : Den K H' v (cellD x) := by
  obtain ⟨a, rfl, _, ht⟩ := cell_ref h
  exact .tup (s _ _ ht (ne_of ht hp (by intro z; cases z))) (.cons (.int _) (.cons (.int _) .nil))
theorem SameBut.cells (s : SameBut p H H') (hp : H p = some (.lst l)) : ∀ {vs : List V} {cs : List Cell}, Dens K H vs (cs.map cellD) → Dens K H' vs (cs.map cellD)
  | [], [], _ => .nil
  | v :: vs, c :: cs, .cons h t => .cons (s.cell hp h) (s.cells hp t)
theorem SameBut.ls {q : Addr} {cs : List Cell} (s : SameBut p H H') (hp : H p = some (.lst l)) (n : q ≠ p) (h : Ls K H q (cs.map cellD)) : Ls K H' q (cs.map cellD) := let ⟨xs, e, D⟩ := h; ⟨xs, s _ _ e n, s.cells hp D⟩
end
theorem ltl {n : Nat} (h : n < 10000) : n < sizeLine := Nat.lt_of_lt_of_le h (by rw [sizeLine_eq]; decide)
end L2
set_option Elab.async false
set_option linter.all false
set_option maxRecDepth 100000
namespace L2
open PySem PySem.Spec PyProof.Rows
theorem at_row {zs : List Str} {r : Nat} (h : r < zs.length) : atI (zs.map V.str) (r : Int) = some (.str (zs.getD r Str.empty)) := atI_nat (by simp [List.getD_eq_getElem?_getD, h])
theorem at_sign {z : Str} {c : Nat} (h : c < z.length) : atI z.cps.toList (c : Int) = some (z.cps.getD c 0) := by
  have h' : c < z.cps.size := h
  exact atI_nat (by simp [Array.getD_eq_getD_getElem?, h'])
theorem Rect.row {zs : List Str} {w r : Nat} (h : Rect zs w) (hr : r < zs.length) : (zs.getD r Str.empty).length = w := by
  have e : zs.getD r Str.empty = zs[r] := by simp [List.getD_eq_getElem?_getD, hr]
  rw [e]; exact h.len _ (List.getElem_mem hr)
theorem rd_sign {K : PySem.W.Frag} {H : Hp} {p : Addr} {zs : List Str} {w r c : Nat} {Q : VK} (hS : SqL K H p (zs.map V.str)) (rc : Rect zs w) (hr : r < zs.length) (hc : c < w) (q : Q (.str ⟨#[codeAt zs (r, c)]⟩) H) : rIx K (.str (zs.getD r Str.empty)) (.int (c : Int)) H Q := by
  have e := rc.row hr
  exact .inr (.inr ⟨_, _, _, rfl, rfl, small (by have := rc.w6; omega), at_sign (by omega), q⟩)
theorem rd_row {K : PySem.W.Frag} {H : Hp} {p : Addr} {zs : List Str} {r : Nat} {Q : VK} (hS : SqL K H p (zs.map V.str)) (hr : r < zs.length) (q : Q (.str (zs.getD r Str.empty)) H) : rIx K (.ref p) (.int (r : Int)) H Q :=
  .inl ⟨p, _, _, _, rfl, rfl, hS, at_row hr, q⟩
theorem over_range0 {H : Hp} (n : Nat) : ItOver (Itr 0 n) H ((List.range n).map fun i : Nat => V.int (i : Int)) := by
  have h := over_range (H := H) 0 n
  have e : (((List.range n).map fun i : Nat => (0 : Int) + (i : Int)).map V.int) = (List.range n).map fun i : Nat => V.int (i : Int) := by
    rw [List.map_map]
    refine List.map_congr_left fun i _ => ?_
    simp
  rw [e] at h; exact h
theorem Dens.nats {K : PySem.W.Frag} {H : Hp} : ∀ l : List Nat, Dens K H (l.map fun i : Nat => V.int (i : Int)) (l.map fun i : Nat => Dt.int (i : Int))
  | [] => .nil
  | _ :: l => .cons (.int _) (Dens.nats l)
theorem mem_field {h w : Nat} {x : Cell} : x ∈ fieldL h w ↔ inF h w x := by
  unfold fieldL inF
  rw [List.mem_flatMap]
  constructor
  · rintro ⟨r, hr, hx⟩
    obtain ⟨c, hc, rfl⟩ := List.mem_map.mp hx
    rw [List.mem_range] at hr hc
    exact ⟨⟨by show (0 : Int) ≤ (r : Int); omega, by show (r : Int) < h; omega⟩, ⟨by show (0 : Int) ≤ (c : Int); omega, by show (c : Int) < w; omega⟩⟩
  · rintro ⟨⟨a, b⟩, ⟨c, d⟩⟩
    refine ⟨x.1.toNat, List.mem_range.mpr (by omega), List.mem_map.mpr ⟨x.2.toNat, List.mem_range.mpr (by omega), ?_⟩⟩
    exact Prod.ext (by show ((x.1.toNat : Nat) : Int) = x.1; omega) (by show ((x.2.toNat : Nat) : Int) = x.2; omega)
theorem field_succ (h w : Nat) : fieldL (h + 1) w = fieldL h w ++ (List.range w).map fun c : Nat => ((h : Int), (c : Int)) := by
  unfold fieldL
  rw [List.range_succ, List.flatMap_append]
  simp
theorem field_len (h w : Nat) : (fieldL h w).length = h * w := by
  induction h with
  | zero => simp [fieldL]
  | succ h ih => rw [field_succ, List.length_append, ih, List.length_map, List.length_range, Nat.succ_mul]
theorem lnear_len (h w : Int) (x : Cell) : (lnear h w x).length ≤ 8 := by
  unfold lnear
  exact Nat.le_trans (List.length_filter_le _ _) (by rw [List.length_map]; decide)
theorem figN_le (h w : Int) (st : List Cell) (x : Cell) : figN h w st x ≤ 8 := Nat.le_trans (List.length_filter_le _ _) (lnear_len h w x)
theorem lnear_in {h w : Int} {x y : Cell} (hy : y ∈ lnear h w x) : inF h w y := by
  unfold lnear at hy
  exact of_decide_eq_true (List.mem_filter.mp hy).2
end L2
set_option Elab.async false
set_option linter.all false
set_option maxRecDepth 100000
namespace L2
open PySem PySem.Spec PyProof.Rows
def sgnN (h w : Int) (st kn : List Cell) (x : Cell) : Nat := if x ∈ kn then 48 + figN h w st x else 35
def rowN (h w : Int) (st kn : List Cell) (r : Int) (n : Nat) : Str := ⟨((List.range n).map fun c : Nat => sgnN h w st kn (r, (c : Int))).toArray⟩
def shownL (h w : Nat) (st kn : List Cell) : List Str := (List.range h).map fun r : Nat => rowN h w st kn (r : Int) w
theorem row_len (h w : Int) (st kn : List Cell) (r : Int) (n : Nat) : (rowN h w st kn r n).length = n := by
  show (((List.range n).map fun c : Nat => sgnN h w st kn (r, (c : Int))).toArray).size = n
  simp
theorem dig : ∀ n, n ≤ 8 → (Str.ofString (toString ((n : Nat) : Int)) : Str) = ⟨#[48 + n]⟩ := by
  intro n hn
  have := (by decide +kernel : ∀ k ∈ List.range 9, (Str.ofString (toString ((k : Nat) : Int)) : Str) = ⟨#[48 + k]⟩)
  exact this n (List.mem_range.mpr (by omega))
theorem dig_log (n : Nat) (h : n ≤ 8) : ((n : Nat) : Int).natAbs.log2 < 1920 := by
  have e : ((n : Nat) : Int).natAbs = n := Int.natAbs_natCast n
  rw [e]
  have := (by decide : ∀ k ∈ List.range 9, k.log2 < 1920)
  exact this n (List.mem_range.mpr (by omega))
inductive Reach (h w : Int) (st kn : List Cell) (x0 : Cell) : Cell → Prop
  | base : Reach h w st kn x0 x0
  | step {x y : Cell} : Reach h w st kn x0 x → figN h w st x = 0 → y ∈ lnear h w x → y ∉ kn → Reach h w st kn x0 y
theorem fig_zero {h w : Int} {st : List Cell} {x y : Cell} (e : figN h w st x = 0) (hy : y ∈ lnear h w x) : y ∉ st := by
  unfold figN at e
  intro hs
  have := List.length_eq_zero_iff.mp e
  have m : y ∈ (lnear h w x).filter fun y => decide (y ∈ st) := List.mem_filter.mpr ⟨hy, decide_eq_true hs⟩
  rw [this] at m; cases m
theorem Reach.inF {h w : Int} {st kn : List Cell} {x0 y : Cell} (h0 : inF h w x0) (r : Reach h w st kn x0 y) : L2.inF h w y := by
  induction r with
  | base => exact h0
  | step _ _ hy _ _ => exact lnear_in hy
theorem Reach.free {h w : Int} {st kn : List Cell} {x0 y : Cell} (h0 : x0 ∉ st) (r : Reach h w st kn x0 y) : y ∉ st := by
  induction r with
  | base => exact h0
  | step _ e hy _ _ => exact fig_zero e hy
theorem Reach.new {h w : Int} {st kn : List Cell} {x0 y : Cell} (h0 : x0 ∉ kn) (r : Reach h w st kn x0 y) : y ∉ kn := by
  cases r with
  | base => exact h0
  | step _ _ _ hk => exact hk
theorem nodup_le {α : Type} [DecidableEq α] : ∀ {l1 l2 : List α}, l1.Nodup → (∀ x ∈ l1, x ∈ l2) → l1.length ≤ l2.length
  | [], _, _, _ => Nat.zero_le _
  | a :: l1, l2, hn, hs => by
    have ha := hs a List.mem_cons_self
    have hn' := List.nodup_cons.mp hn
    have ih := nodup_le (l1 := l1) (l2 := l2.erase a) hn'.2 fun x hx => (List.mem_erase_of_ne (fun e : x = a => hn'.1 (by rw [← e]; exact hx))).mpr (hs x (List.mem_cons_of_mem _ hx))
    rw [List.length_erase_of_mem ha] at ih
    have : 0 < l2.length := List.length_pos_of_mem ha
    rw [List.length_cons]; omega
structure OpInv (h w : Int) (st kn : List Cell) (x0 : Cell) (cs : List Cell) (at_ : Nat) : Prop where
  nd : cs.Nodup
  has : x0 ∈ cs
  rch : ∀ y ∈ cs, Reach h w st kn x0 y
  le : at_ ≤ cs.length
  cl : ∀ i y, i < at_ → cs[i]? = some y → figN h w st y = 0 → ∀ z ∈ lnear h w y, z ∈ kn ∨ z ∈ cs
theorem OpInv.done {h w : Int} {st kn : List Cell} {x0 : Cell} {cs : List Cell} (o : OpInv h w st kn x0 cs cs.length) (y : Cell) : y ∈ cs ↔ Reach h w st kn x0 y := by
  refine ⟨o.rch y, fun r => ?_⟩
  induction r with
  | base => exact o.has
  | step _ e hy hk ih =>
    obtain ⟨i, hi⟩ := List.getElem?_of_mem ih
    have hlt : i < cs.length := (List.getElem?_eq_some_iff.mp hi).1
    rcases o.cl i _ hlt hi e _ hy with z | z
    · exact absurd z hk
    · exact z
theorem OpInv.skip {h w : Int} {st kn : List Cell} {x0 x : Cell} {cs : List Cell} {n : Nat} (o : OpInv h w st kn x0 cs n) (hx : cs[n]? = some x) (e : figN h w st x ≠ 0) : OpInv h w st kn x0 cs (n + 1) := by
  have hn : n < cs.length := (List.getElem?_eq_some_iff.mp hx).1
  refine ⟨o.nd, o.has, o.rch, hn, fun i y hi hy e' z hz => ?_⟩
  by_cases hin : i = n
  · subst hin
    rw [hx] at hy; cases hy
    exact absurd e' e
  · exact o.cl i y (by omega) hy e' z hz
theorem OpInv.len {h w : Nat} {st kn : List Cell} {x0 : Cell} {cs : List Cell} {n : Nat} (o : OpInv h w st kn x0 cs n) (h0 : inF h w x0) (h6 : h ≤ 6) (w6 : w ≤ 6) : cs.length ≤ 36 := by
  have := nodup_le (l2 := fieldL h w) o.nd fun y hy => mem_field.mpr ((o.rch y hy).inF h0)
  rw [field_len] at this
  have : h * w ≤ 6 * 6 := Nat.mul_le_mul h6 w6
  omega
end L2
set_option Elab.async false
set_option linter.all false
set_option maxRecDepth 100000
namespace L2
open PySem PySem.Spec PyProof.Rows
theorem inS_no {sg : Str} {c : Nat} (h : c ∉ sg.cps.toList) : inS sg c = false := by
  unfold inS
  rw [PySem.W.occ_nil_of_no sg ⟨#[c]⟩ 1 fun i hi => ?_]
  · rfl
  · cases e : Builtin.Str.subAt sg ⟨#[c]⟩ i with
    | false => rfl
    | true =>
      refine absurd ?_ h
      have e' : sg.cps.extract i (i + 1) = #[c] := beq_iff_eq.mp e
      have hm : c ∈ sg.cps.extract i (i + 1) := by rw [e']; simp
      obtain ⟨k, hk, e2⟩ := Array.mem_extract_iff_getElem.mp hm
      rw [← e2]
      exact Array.getElem_mem_toList _
theorem inS_of {sg : Str} (h : sg.cps.toList.all (inS sg) = true) (c : Nat) : inS sg c = decide (c ∈ sg.cps.toList) := by
  by_cases hc : c ∈ sg.cps.toList
  · rw [decide_eq_true hc]; exact List.all_eq_true.mp h c hc
  · rw [decide_eq_false hc]; exact inS_no hc
def sgnOK (c : Nat) : Bool := decide (c = 35 ∨ (48 ≤ c ∧ c ≤ 56))
theorem inS_all (c : Nat) : inS "#012345678" c = sgnOK c := by
  rw [inS_of (by decide +kernel)]
  have e : ("#012345678" : Str).cps.toList = [35, 48, 49, 50, 51, 52, 53, 54, 55, 56] := by decide +kernel
  rw [e]
  by_cases h : c < 57
  · exact (by decide +kernel : ∀ k ∈ List.range 57, decide (k ∈ [35, 48, 49, 50, 51, 52, 53, 54, 55, 56]) = sgnOK k) c (List.mem_range.mpr h)
  · have n1 : ¬ c ∈ [35, 48, 49, 50, 51, 52, 53, 54, 55, 56] := fun z => h ((by decide : ∀ k ∈ [35, 48, 49, 50, 51, 52, 53, 54, 55, 56], k < 57) c z)
    have n2 : sgnOK c = false := by unfold sgnOK; exact decide_eq_false (by omega)
    rw [decide_eq_false n1, n2]
structure Vw (zs : List Str) (w : Nat) : Prop extends Rect zs w where
  sg : ∀ z ∈ zs, ∀ c ∈ z.cps.toList, sgnOK c = true
theorem shown_vw {h w : Nat} {st kn : List Cell} (h1 : 1 ≤ h) (h6 : h ≤ 6) (w1 : 1 ≤ w) (w6 : w ≤ 6) : Vw (shownL h w st kn) w := by
  have hl : (shownL h w st kn).length = h := by unfold shownL; rw [List.length_map, List.length_range]
  refine ⟨⟨by omega, by omega, w1, w6, fun z hz => ?_⟩, fun z hz c hc => ?_⟩
  · obtain ⟨r, _, rfl⟩ := List.mem_map.mp hz
    exact row_len _ _ _ _ _ _
  · obtain ⟨r, _, rfl⟩ := List.mem_map.mp hz
    unfold rowN at hc
    simp only [List.mem_map] at hc
    obtain ⟨k, _, rfl⟩ := hc
    unfold sgnN sgnOK
    have := figN_le h w st ((r : Int), (k : Int))
    split
    · exact decide_eq_true (.inr ⟨by omega, by omega⟩)
    · exact decide_eq_true (.inl rfl)
end L2
set_option Elab.async false
set_option linter.all false
set_option maxRecDepth 100000
namespace L2
open PySem PySem.Spec PyProof.Rows
def rowB (z : Str) (n : Int) : Bool := decide ((z.length : Int) = n) && z.cps.toList.all (inS "#012345678")
def viewB : List Str → Bool
  | [] => false
  | z :: zs => decide ((z :: zs).length ≤ 6) && decide (1 ≤ z.length ∧ z.length ≤ 6) && (z :: zs).all fun r => rowB r z.length
theorem viewB_cons {z : Str} {zs : List Str} (h1 : (z :: zs).length ≤ 6) (h2 : 1 ≤ z.length) (h3 : z.length ≤ 6) : viewB (z :: zs) = (z :: zs).all fun r => rowB r z.length := by
  show (decide ((z :: zs).length ≤ 6) && decide (1 ≤ z.length ∧ z.length ≤ 6) && _) = _
  rw [decide_eq_true h1, decide_eq_true (And.intro h2 h3)]; rfl
theorem viewB_long {z : Str} {zs : List Str} (h1 : ¬ (z :: zs).length ≤ 6) : viewB (z :: zs) = false := by
  show (decide ((z :: zs).length ≤ 6) && _ && _) = _
  rw [decide_eq_false h1]; rfl
theorem viewB_wide {z : Str} {zs : List Str} (h1 : ¬ (1 ≤ z.length ∧ z.length ≤ 6)) : viewB (z :: zs) = false := by
  show (_ && decide (1 ≤ z.length ∧ z.length ≤ 6) && _) = _
  rw [decide_eq_false h1, Bool.and_false]; rfl
theorem Vw.ok {zs : List Str} {w : Nat} (v : Vw zs w) : viewB zs = true := by
  obtain ⟨z, zt, rfl, hz⟩ := v.toRect.head
  rw [viewB_cons v.le (by have := v.w1; omega) (by have := v.w6; omega), List.all_eq_true]
  intro r hr
  unfold rowB
  rw [decide_eq_true (by rw [v.len r hr, hz]), Bool.true_and, List.all_eq_true]
  intro c hc
  rw [inS_all]; exact v.sg r hr c hc
def fView (l : Addr) (h w : Int) : List (Str × V) := putF "width" (.int w) (putF "height" (.int h) (putF "rows" (.ref l) []))
theorem f_rows (l : Addr) (h w : Int) : (fView l h w).lookup ("rows" : Str) = some (.ref l) := by
  unfold fView; rw [lookup_putF, if_neg (by decide +kernel), lookup_putF, if_neg (by decide +kernel), lookup_putF, if_pos rfl]
theorem f_height (l : Addr) (h w : Int) : (fView l h w).lookup ("height" : Str) = some (.int h) := by
  unfold fView; rw [lookup_putF, if_neg (by decide +kernel), lookup_putF, if_pos rfl]
theorem f_width (l : Addr) (h w : Int) : (fView l h w).lookup ("width" : Str) = some (.int w) := by
  unfold fView; rw [lookup_putF, if_pos rfl]
structure ViewAt (C : Addr) (H : Hp) (x : Addr) (zs : List Str) (w : Nat) : Prop where
  ob : ∃ dx l, H x = some (.ins C dx (fView l zs.length w)) ∧ H l = some (.lst (zs.map V.str))
  vw : Vw zs w
theorem ViewAt.mono {C : Addr} {H H' : Hp} {x : Addr} {zs : List Str} {w : Nat} (v : ViewAt C H x zs w) (s : Same H H') : ViewAt C H' x zs w := let ⟨dx, l, a, b⟩ := v.ob; ⟨⟨dx, l, s _ _ a, s _ _ b⟩, v.vw⟩
def closedB (zs : List Str) (w : Nat) (x : Cell) : Bool := decide (inF zs.length w x) && decide (codeAt zs (x.1.toNat, x.2.toNat) = 35)
def nearRow (w : Nat) (x : Cell) (r : Int) : List Cell := ((List.range ((min (x.2 + 2) w) - (max (x.2 - 1) 0)).toNat).map fun k : Nat => (r, max (x.2 - 1) 0 + (k : Int))).filter fun y => !decide (y = x)
def pnearN (w : Nat) (x : Cell) (lo : Int) (n : Nat) : List Cell := (List.range n).flatMap fun k : Nat => nearRow w x (lo + (k : Int))
def pnearL (h w : Nat) (x : Cell) : List Cell := pnearN w x (max (x.1 - 1) 0) ((min (x.1 + 2) h) - (max (x.1 - 1) 0)).toNat
theorem pnear_all : ∀ h ∈ List.range 7, ∀ w ∈ List.range 7, ∀ r ∈ List.range h, ∀ c ∈ List.range w, pnearL h w ((r : Int), (c : Int)) = lnear h w ((r : Int), (c : Int)) := by decide +kernel
theorem pnear_eq {h w : Nat} {x : Cell} (h6 : h ≤ 6) (w6 : w ≤ 6) (hx : inF h w x) : pnearL h w x = lnear h w x := by
  obtain ⟨⟨a, b⟩, ⟨c, d⟩⟩ := hx
  have := pnear_all h (List.mem_range.mpr (by omega)) w (List.mem_range.mpr (by omega)) x.1.toNat (List.mem_range.mpr (by omega)) x.2.toNat (List.mem_range.mpr (by omega))
  have e : (((x.1.toNat : Nat) : Int), ((x.2.toNat : Nat) : Int)) = x := Prod.ext (by show ((x.1.toNat : Nat) : Int) = x.1; omega) (by show ((x.2.toNat : Nat) : Int) = x.2; omega)
  rw [e] at this; exact this
end L2
set_option Elab.async false
set_option linter.all false
set_option maxRecDepth 100000
namespace L2
open PySem PySem.Spec PyProof.Rows PySem.W
section
variable {prog : Program} {w : World} {A : Around} {E : Value → Shared → Prop} {s : Shared}
abbrev Keeps (h h' : Heap) : Prop := ∀ b o, h.get? b = some o → h'.get? b = some o
end
def cellLt (a b : Cell) : Prop := a.1 < b.1 ∨ (a.1 = b.1 ∧ a.2 < b.2)
instance (a b : Cell) : Decidable (cellLt a b) := by unfold cellLt; infer_instance
section
variable {X : Cx}
theorem cell_obj {pins : List (Addr × Obj)} {σ : L2.St} {H : Hp} {s : Shared} {v : V} {u : Value} {c : Cell} (I : Inv X pins σ H s) (d : Den X.K H v (cellD c)) (r : RelV v u) : ∃ (a : Addr) (o : Obj) (t t' : Tok) (n : Nat), u = .ref a ∧ s.heap.get? a = some o ∧ o.cls = .type "tuple" ∧ o.data = .seq #[.int c.1 t, .int c.2 t'] n := by
  obtain ⟨a, rfl, ht, _⟩ := cell_ref d
  cases r
  obtain ⟨its, rv, ⟨o, e, hc, n, hd⟩, _⟩ := I.tuple ht
  obtain ⟨u1, u2, rfl, ⟨t, rfl⟩, ⟨t', rfl⟩⟩ := vals2 rv
  exact ⟨a, o, t, t', n, rfl, e, hc, hd⟩
end
end L2
set_option Elab.async false
set_option linter.all false
set_option maxRecDepth 100000
namespace L2
open PySem PySem.Spec PyProof.Rows
end L2
set_option Elab.async false
set_option linter.all false
set_option maxRecDepth 100000
namespace L2
open PySem PySem.Spec PyProof.Rows PySem.W
structure Ordr {α : Type} (lt : α → α → Bool) : Prop where
  asym : ∀ a b, lt a b = true → lt b a = false
  tr : ∀ a b c, lt b a = false → lt c b = false → lt c a = false
  anti : ∀ a b, lt a b = false → lt b a = false → a = b
theorem Ordr.refl {α : Type} {lt : α → α → Bool} (o : Ordr lt) (a : α) : lt a a = false := by
  cases h : lt a a
  · rfl
  · rw [← h]; exact o.asym a a h ▸ rfl
structure Good (N : Nat) (p : Array Nat) : Prop where
  perm : p.toList.Perm (List.range N)
theorem Good.size {N : Nat} {p : Array Nat} (g : Good N p) : p.size = N := by
  have := g.perm.length_eq
  simpa using this
theorem Good.lt {N : Nat} {p : Array Nat} (g : Good N p) (h : 1 ≤ N) (k : Nat) : p.getD k 0 < N := by
  by_cases hk : k < p.size
  · have : p.getD k 0 ∈ p.toList := by
      rw [Array.getD_eq_getD_getElem?, Array.getElem?_eq_getElem hk]
      exact Array.getElem_mem_toList hk
    exact List.mem_range.mp (g.perm.mem_iff.mp this)
  · rw [Array.getD_eq_getD_getElem?, Array.getElem?_eq_none (by omega)]
    exact h
theorem swap_perm {p : Array Nat} {i j : Nat} : (p.swapIfInBounds i j).toList.Perm p.toList := by
  unfold Array.swapIfInBounds
  split
  · split
    · exact (Array.swap_perm _ _).toList
    · exact .refl _
  · exact .refl _
theorem swap_get {p : Array Nat} {i j k : Nat} (hi : i < p.size) (hj : j < p.size) : (p.swapIfInBounds i j).getD k 0 = if k = i then p.getD j 0 else if k = j then p.getD i 0 else p.getD k 0 := by
  unfold Array.swapIfInBounds
  rw [dif_pos hi, dif_pos hj]
  simp only [Array.getD_eq_getD_getElem?, Array.getElem?_swap]
  by_cases h1 : k = i
  · subst h1
    by_cases h2 : k = j
    · subst h2; simp [hi]
    · simp [hi, hj, h2, Ne.symm h2]
  · by_cases h2 : k = j
    · subst h2; simp [hi, hj, h1]
    · simp [h1, h2, Ne.symm h1, Ne.symm h2]
theorem fold_perm {g h : Nat → Nat} : ∀ (ks : List Nat) (p : Array Nat), (ks.foldl (fun a k => a.swapIfInBounds (g k) (h k)) p).toList.Perm p.toList
  | [], p => .refl _
  | k :: ks, p => by
    rw [List.foldl_cons]
    exact (fold_perm ks _).trans swap_perm
theorem rev_good {N : Nat} {p : Array Nat} {i j : Nat} (g : Good N p) : Good N (kas_rev p i j) := ⟨(fold_perm _ _).trans g.perm⟩
theorem bub_good {N : Nat} {p : Array Nat} {i j : Nat} (g : Good N p) : Good N (bubble p i j) := ⟨(fold_perm _ _).trans g.perm⟩
theorem mir_in {i j d k : Nat} (hd : 2 * (d + 1) ≤ j - i) (h1 : k ≠ i + d) (h2 : k ≠ j - 1 - d) : (i ≤ k ∧ k < i + (d + 1) ↔ i ≤ k ∧ k < i + d) ∧ (j - (d + 1) ≤ k ∧ k < j ↔ j - d ≤ k ∧ k < j) := ⟨by omega, by omega⟩
theorem mir_get {p : Array Nat} {i j : Nat} (hj : j ≤ p.size) : ∀ d, 2 * d ≤ j - i → ∀ k, (mirror p i j d).getD k 0 = if i ≤ k ∧ k < i + d then p.getD (i + j - 1 - k) 0 else if j - d ≤ k ∧ k < j then p.getD (i + j - 1 - k) 0 else p.getD k 0 := by
  intro d
  induction d with
  | zero =>
    intro _ k
    rw [if_neg (fun z => Nat.lt_irrefl _ (Nat.lt_of_le_of_lt z.1 z.2)), if_neg (fun z => Nat.lt_irrefl _ (Nat.lt_of_le_of_lt z.1 z.2))]; rfl
  | succ d ih =>
    intro hd k
    have e : mirror p i j (d + 1) = (mirror p i j d).swapIfInBounds (i + d) (j - 1 - d) := by
      unfold mirror; rw [List.range_succ, List.foldl_append]; rfl
    have sz : (mirror p i j d).size = p.size := mirror_size _ _ _ _
    have b1 : i + d < j := by clear ih e sz hj; omega
    have b2 : j - 1 - d < j := by clear ih e sz hj; omega
    rw [e, swap_get (by rw [sz]; exact Nat.lt_of_lt_of_le b1 hj) (by rw [sz]; exact Nat.lt_of_lt_of_le b2 hj)]
    have ih' := ih (Nat.le_trans (Nat.mul_le_mul_left 2 (Nat.le_succ d)) hd)
    clear ih e sz hj
    by_cases h1 : k = i + d
    · subst h1
      rw [if_pos rfl, ih', if_neg (by omega), if_neg (by omega), if_pos (by omega)]
      congr 1; omega
    · rw [if_neg h1]
      by_cases h2 : k = j - 1 - d
      · subst h2
        rw [if_pos rfl, ih', if_neg (by omega), if_neg (by omega), if_neg (by omega), if_pos (by omega)]
        congr 1; omega
      · obtain ⟨c1, c2⟩ := mir_in hd h1 h2
        rw [if_neg h2, ih']
        simp only [c1, c2]
theorem rev_get {p : Array Nat} {i j : Nat} (hj : j ≤ p.size) (k : Nat) : (kas_rev p i j).getD k 0 = if i ≤ k ∧ k < j then p.getD (i + j - 1 - k) 0 else p.getD k 0 := by
  unfold kas_rev
  rw [mir_get hj _ (by omega)]
  clear hj
  by_cases h : i ≤ k ∧ k < j
  · rw [if_pos h]
    by_cases h1 : i ≤ k ∧ k < i + (j - i) / 2
    · rw [if_pos h1]
    · rw [if_neg h1]
      by_cases h2 : j - (j - i) / 2 ≤ k ∧ k < j
      · rw [if_pos h2]
      · rw [if_neg h2]
        congr 1
        omega
  · rw [if_neg h, if_neg (by omega), if_neg (by omega)]
theorem bub_get {p : Array Nat} {r : Nat} (hr : r < p.size) : ∀ d, d ≤ r → ∀ k, (bubble p r d).getD k 0 = if k = r - d then p.getD r 0 else if r - d < k ∧ k ≤ r then p.getD (k - 1) 0 else p.getD k 0 := by
  intro d
  induction d with
  | zero =>
    intro _ k
    show p.getD k 0 = _
    by_cases h : k = r
    · rw [if_pos (by omega), h]
    · rw [if_neg (by omega), if_neg (by omega)]
  | succ d ih =>
    intro hd k
    have e : bubble p r (d + 1) = (bubble p r d).swapIfInBounds (r - d) (r - d - 1) := by
      unfold bubble; rw [List.range_succ, List.foldl_append]; rfl
    have sz : (bubble p r d).size = p.size := bubble_size _ _ _
    rw [e, swap_get (by omega) (by omega)]
    have ih' := ih (by omega)
    by_cases h1 : k = r - d
    · rw [if_pos h1, ih', if_neg (by omega), if_neg (by omega), if_neg (by omega), if_pos (by omega)]
      congr 1; omega
    · rw [if_neg h1]
      by_cases h2 : k = r - d - 1
      · rw [if_pos h2, ih', if_pos rfl, if_pos (by omega)]
      · rw [if_neg h2, ih', if_neg h1]
        by_cases h3 : r - d < k ∧ k ≤ r
        · rw [if_pos h3, if_neg (by omega), if_pos (by omega)]
        · rw [if_neg h3, if_neg (by omega), if_neg (by omega)]
section
variable {α : Type} {lt : α → α → Bool} {f : Nat → α} {N : Nat} {s : Shared} {cmp : Nat → Nat → (Bool → Shared → Prop) → Shared → Prop}
def Ky (f : Nat → α) (p : Array Nat) (i : Nat) : α := f (p.getD i 0)
def UpTo (lt : α → α → Bool) (f : Nat → α) (p : Array Nat) (n : Nat) : Prop := ∀ i, i + 1 < n → lt (Ky f p (i + 1)) (Ky f p i) = false
def DnTo (lt : α → α → Bool) (f : Nat → α) (p : Array Nat) (n : Nat) : Prop := ∀ i, i + 1 < n → lt (Ky f p i) (Ky f p (i + 1)) = false
theorem UpTo.le (o : Ordr lt) {p : Array Nat} {n : Nat} (u : UpTo lt f p n) : ∀ d i, i + d < n → lt (Ky f p (i + d)) (Ky f p i) = false := by
  intro d
  induction d with
  | zero => intro i _; exact o.refl _
  | succ d ih => intro i h; exact o.tr _ _ _ (ih i (by omega)) (u (i + d) (by omega))
def Asks (lt : α → α → Bool) (f : Nat → α) (N : Nat) (s : Shared) (cmp : Nat → Nat → (Bool → Shared → Prop) → Shared → Prop) : Prop := ∀ i j (C : Bool → Shared → Prop), i < N → j < N → C (lt (f i) (f j)) s → cmp i j C s
theorem wp_ask {β : Type} {Q : β → Shared → Prop} {k : Bool → KasT β} {i j : Nat} (hc : Asks lt f N s cmp) (hi : i < N) (hj : j < N) (h : (k (lt (f i) (f j))).kasWp cmp Q s) : (KasT.ask i j k).kasWp cmp Q s :=
  hc i j _ hi hj h
theorem wp_asc (hc : Asks lt f N s cmp) {p : Array Nat} (g : Good N p) (hN : 1 ≤ N) {Q : Nat → Shared → Prop} : ∀ (fu n : Nat), n + fu ≤ N → 1 ≤ n → UpTo lt f p n →
    (∀ m, n ≤ m → m ≤ n + fu → UpTo lt f p m → (m < n + fu → lt (Ky f p m) (Ky f p (m - 1)) = true) → Q m s) → (kas_asc p fu n).kasWp cmp Q s := by
  intro fu
  induction fu with
  | zero =>
    intro n h h1 u q
    rw [kas_asc.eq_1]
    exact q n (Nat.le_refl _) (Nat.le_refl _) u (fun z => by omega)
  | succ fu ih =>
    intro n h h1 u q
    rw [kas_asc.eq_2]
    refine wp_ask hc (g.lt hN _) (g.lt hN _) ?_
    by_cases hb : lt (Ky f p n) (Ky f p (n - 1)) = true
    · have hb' : lt (f (p.getD n 0)) (f (p.getD (n - 1) 0)) = true := hb
      rw [hb', if_pos rfl]
      exact q n (Nat.le_refl _) (by omega) u (fun _ => hb)
    · have hb' : lt (f (p.getD n 0)) (f (p.getD (n - 1) 0)) = false := by
        cases h' : lt (f (p.getD n 0)) (f (p.getD (n - 1) 0))
        · rfl
        · exact absurd h' hb
      rw [hb', if_neg Bool.false_ne_true]
      refine ih (n + 1) (by omega) (by omega) (fun i hi => ?_) (fun m h2 h3 u' q' => q m (by omega) (by omega) u' fun z => q' (by omega))
      by_cases h4 : i + 1 < n
      · exact u i h4
      · have : i = n - 1 := by omega
        subst this
        have e : n - 1 + 1 = n := by omega
        rw [e]; exact hb'
theorem bool_no {b : Bool} (h : ¬ b = true) : b = false := by cases b <;> simp_all
def Eqs (f : Nat → α) (p : Array Nat) (a b : Nat) : Prop := ∀ i, a ≤ i → i < b → Ky f p i = Ky f p (b - 1)
theorem rev_eqs {p : Array Nat} {a b : Nat} (hb : b ≤ p.size) (e : Eqs f p a b) (i : Nat) : Ky f (kas_rev p a b) i = Ky f p i := by
  unfold Ky
  rw [rev_get hb]
  by_cases h : a ≤ i ∧ i < b
  · rw [if_pos h]
    exact (e (a + b - 1 - i) (by omega) (by omega)).trans (e i h.1 h.2).symm
  · rw [if_neg h]
theorem wp_desc (o : Ordr lt) (hc : Asks lt f N s cmp) (hN : 1 ≤ N) {Q : Array Nat × Nat × Nat → Shared → Prop} : ∀ (fu : Nat) (p : Array Nat) (n q : Nat), Good N p → n + fu ≤ N → q + 1 ≤ n → DnTo lt f p n → Eqs f p (n - (q + 1)) n →
    (∀ p' n' q', Good N p' → n ≤ n' → n' ≤ N → q' + 1 ≤ n' → DnTo lt f p' n' → Eqs f p' (n' - (q' + 1)) n' → Q (p', n', q') s) → (kas_desc fu p n q).kasWp cmp Q s := by
  intro fu
  induction fu with
  | zero =>
    intro p n q g h h1 d e hq
    rw [kas_desc.eq_1]
    exact hq p n q g (Nat.le_refl _) (by omega) h1 d e
  | succ fu ih =>
    intro p n q g h h1 d e hq
    rw [kas_desc.eq_2]
    have sz := g.size
    refine wp_ask hc (g.lt hN _) (g.lt hN _) ?_
    by_cases hb : lt (f (p.getD n 0)) (f (p.getD (n - 1) 0)) = true
    · rw [hb, if_pos rfl]
      have dn : ∀ p' : Array Nat, (∀ i, Ky f p' i = Ky f p i) → DnTo lt f p' (n + 1) := fun p' ep i hi => by
        rw [ep, ep]
        by_cases h4 : i + 1 < n
        · exact d i h4
        · have : i = n - 1 := by omega
          subst this
          have e1 : n - 1 + 1 = n := by omega
          rw [e1]; exact o.asym _ _ hb
      have eqs : ∀ p' : Array Nat, Eqs f p' (n + 1 - (0 + 1)) (n + 1) := fun p' i h1 h2 => by
        have : i = n + 1 - 1 := by omega
        rw [this]
      by_cases hq0 : q > 0
      · rw [if_pos hq0]
        exact ih _ _ _ (rev_good g) (by omega) (by omega) (dn _ (rev_eqs (by omega) e)) (eqs _) fun p' n' q' a1 a2 => hq p' n' q' a1 (by omega)
      · rw [if_neg hq0]
        exact ih _ _ _ g (by omega) (by omega) (dn _ fun _ => rfl) (eqs _) fun p' n' q' a1 a2 => hq p' n' q' a1 (by omega)
    · have hb0 := bool_no hb
      rw [hb0, if_neg Bool.false_ne_true]
      refine wp_ask hc (g.lt hN _) (g.lt hN _) ?_
      by_cases hd : lt (f (p.getD (n - 1) 0)) (f (p.getD n 0)) = true
      · rw [hd, if_pos rfl]
        exact hq p n q g (Nat.le_refl _) (by omega) h1 d e
      · have hd0 := bool_no hd
        rw [hd0, if_neg Bool.false_ne_true]
        have ek : Ky f p n = Ky f p (n - 1) := o.anti _ _ hb0 hd0
        refine ih _ _ _ g (by omega) (by omega) (fun i hi => ?_) (fun i h3 h4 => ?_) fun p' n' q' a1 a2 => hq p' n' q' a1 (by omega)
        · by_cases h4 : i + 1 < n
          · exact d i h4
          · have : i = n - 1 := by omega
            subst this
            have e1 : n - 1 + 1 = n := by omega
            rw [e1]; exact hd0
        · have e2 : n + 1 - 1 = n := by omega
          rw [e2]
          by_cases h5 : i = n
          · rw [h5]
          · rw [ek]; exact e i (by omega) (by omega)
theorem wp_tail3 (hc : Asks lt f N s cmp) (hN : 1 ≤ N) {Q : Nat × Array Nat → Shared → Prop} {p : Array Nat} {n : Nat} (g : Good N p) (h1 : 1 ≤ n) (hn : n ≤ N) (d : DnTo lt f p n) (hq : ∀ m p', Good N p' → 1 ≤ m → m ≤ N → UpTo lt f p' m → Q (m, p') s) : (kas_tail3 n N p).kasWp cmp Q s := by
  unfold kas_tail3
  rw [KasT.kasWp_bind]
  have sz := g.size
  refine wp_asc hc (rev_good g) hN _ _ (by omega) h1 (fun i hi => ?_) fun m a b u _ => hq m _ (rev_good g) (by omega) (by omega) u
  unfold Ky
  rw [rev_get (by omega), rev_get (by omega), if_pos (by omega), if_pos (by omega)]
  have := d (n - 1 - (i + 1)) (by omega)
  unfold Ky at this
  have e1 : 0 + n - 1 - (i + 1) = n - 1 - (i + 1) := by omega
  have e2 : 0 + n - 1 - i = n - 1 - (i + 1) + 1 := by omega
  rw [e1, e2]; exact this
theorem wp_descPart (o : Ordr lt) (hc : Asks lt f N s cmp) (hN : 1 ≤ N) {Q : Nat × Array Nat → Shared → Prop} {p : Array Nat} {n : Nat} (g : Good N p) (hn : n + 1 ≤ N) (d : DnTo lt f p (n + 1)) (hq : ∀ m p', Good N p' → 1 ≤ m → m ≤ N → UpTo lt f p' m → Q (m, p') s) : (kas_descPart n N p).kasWp cmp Q s := by
  unfold kas_descPart
  rw [KasT.kasWp_bind]
  refine wp_desc o hc hN _ _ _ _ g (by omega) (by omega) d (fun i a b => ?_) fun p' n' q' g' a b c d' e' => ?_
  · have : i = n + 1 - 1 := by omega
    rw [this]
  · have sz := g'.size
    dsimp only
    by_cases h : q' > 0
    · rw [if_pos h]
      refine wp_tail3 hc hN (rev_good g') (by omega) b (fun i hi => ?_) hq
      rw [rev_eqs (by omega) e', rev_eqs (by omega) e']
      exact d' i hi
    · rw [if_neg h]
      exact wp_tail3 hc hN g' (by omega) b d' hq
theorem wp_count (o : Ordr lt) (hc : Asks lt f N s cmp) (hN : 1 ≤ N) {Q : Nat × Array Nat → Shared → Prop} {p : Array Nat} (g : Good N p) (hq : ∀ m p', Good N p' → 1 ≤ m → m ≤ N → UpTo lt f p' m → Q (m, p') s) : (kas_count N p).kasWp cmp Q s := by
  unfold kas_count
  rw [KasT.kasWp_bind]
  have sz := g.size
  refine wp_asc hc g hN _ _ (by omega) (Nat.le_refl _) (fun i hi => by omega) fun m a b u l => ?_
  by_cases hm : m = N
  · rw [if_pos (by simpa using hm)]
    exact hq m p g a (by omega) u
  · rw [if_neg (by simpa using hm)]
    have hl := l (by omega)
    by_cases h1 : m > 1
    · rw [if_pos h1]
      refine wp_ask hc (g.lt hN _) (g.lt hN _) ?_
      by_cases hb : lt (f (p.getD 0 0)) (f (p.getD (m - 1) 0)) = true
      · rw [hb, if_pos rfl]
        exact hq m p g a (by omega) u
      · have hb0 := bool_no hb
        rw [hb0, if_neg Bool.false_ne_true]
        have e : Eqs f p 0 m := fun i _ hi => by
          have u1 := u.le o i 0 (by omega)
          rw [Nat.zero_add] at u1
          have u2 := u.le o (m - 1 - i) i (by omega)
          have e1 : i + (m - 1 - i) = m - 1 := by omega
          rw [e1] at u2
          have hb1 : lt (Ky f p 0) (Ky f p (m - 1)) = false := hb0
          exact o.anti _ _ (o.tr _ _ _ hb1 u1) u2
        refine wp_descPart o hc hN (rev_good g) (by omega) (fun i hi => ?_) hq
        rw [rev_eqs (by omega) e, rev_eqs (by omega) e]
        by_cases h4 : i + 1 < m
        · rw [e i (by omega) (by omega), e (i + 1) (by omega) h4]; exact o.refl _
        · have : i = m - 1 := by omega
          subst this
          have e1 : m - 1 + 1 = m := by omega
          rw [e1]; exact o.asym _ _ hl
    · rw [if_neg h1]
      refine wp_descPart o hc hN g (by omega) (fun i hi => ?_) hq
      have : i = m - 1 := by omega
      subst this
      have e1 : m - 1 + 1 = m := by omega
      rw [e1]; exact o.asym _ _ hl
theorem wp_place (o : Ordr lt) (hc : Asks lt f N s cmp) (hN : 1 ≤ N) {Q : Nat → Shared → Prop} {p : Array Nat} {k : Nat} (g : Good N p) (u : UpTo lt f p k) : ∀ (fu l r : Nat), l ≤ r → r ≤ k → r - l ≤ fu → (∀ i, i < l → lt (Ky f p k) (Ky f p i) = false) → (∀ i, r ≤ i → i < k → lt (Ky f p k) (Ky f p i) = true) →
    (∀ m, m ≤ k → (∀ i, i < m → lt (Ky f p k) (Ky f p i) = false) → (∀ i, m ≤ i → i < k → lt (Ky f p k) (Ky f p i) = true) → Q m s) → (kas_place p k fu l r).kasWp cmp Q s := by
  intro fu
  induction fu with
  | zero =>
    intro l r h1 h2 h3 lo hi hq
    rw [kas_place.eq_1]
    have : l = r := by omega
    subst this
    exact hq l h2 lo hi
  | succ fu ih =>
    intro l r h1 h2 h3 lo hi hq
    rw [kas_place.eq_2]
    by_cases h : l ≥ r
    · rw [if_pos h]
      have : l = r := by omega
      subst this
      exact hq l h2 lo hi
    · rw [if_neg h]
      refine wp_ask hc (g.lt hN _) (g.lt hN _) ?_
      by_cases hb : lt (f (p.getD k 0)) (f (p.getD ((l + r) / 2) 0)) = true
      · rw [hb, if_pos rfl]
        refine ih l ((l + r) / 2) (by omega) (by omega) (by omega) lo (fun i h4 h5 => ?_) hq
        by_cases hr : r ≤ i
        · exact hi i hr h5
        · by_cases hx : lt (Ky f p k) (Ky f p i) = true
          · exact hx
          · have u1 := u.le o (i - (l + r) / 2) ((l + r) / 2) (by omega)
            have e1 : (l + r) / 2 + (i - (l + r) / 2) = i := by omega
            rw [e1] at u1
            have := o.tr _ _ _ u1 (bool_no hx)
            have hb1 : lt (Ky f p k) (Ky f p ((l + r) / 2)) = true := hb
            rw [hb1] at this; cases this
      · have hb0 := bool_no hb
        rw [hb0, if_neg Bool.false_ne_true]
        refine ih ((l + r) / 2 + 1) r (by omega) h2 (by omega) (fun i h4 => ?_) hi hq
        have u1 := u.le o ((l + r) / 2 - i) i (by omega)
        have e1 : i + ((l + r) / 2 - i) = (l + r) / 2 := by omega
        rw [e1] at u1
        exact o.tr _ _ _ u1 hb0
theorem wp_bin (o : Ordr lt) (hc : Asks lt f N s cmp) (hN : 1 ≤ N) {Q : Array Nat → Shared → Prop} : ∀ (fu : Nat) (p : Array Nat) (n : Nat), Good N p → n + fu = N → UpTo lt f p n → (∀ p', Good N p' → UpTo lt f p' N → Q p' s) → (kas_bin fu p n).kasWp cmp Q s := by
  intro fu
  induction fu with
  | zero =>
    intro p n g h u hq
    rw [kas_bin.eq_1]
    have : n = N := by omega
    subst this
    exact hq p g u
  | succ fu ih =>
    intro p n g h u hq
    rw [kas_bin.eq_2, KasT.kasWp_bind]
    have sz := g.size
    refine wp_place o hc hN g u _ _ _ (Nat.zero_le _) (Nat.le_refl _) (by omega) (fun i z => by omega) (fun i a b => by omega) fun m hm lo hi => ?_
    refine ih _ _ (bub_good g) (by omega) (fun i hi' => ?_) hq
    have K' : ∀ j, Ky f (bubble p n (n - m)) j = if j = m then Ky f p n else if m < j ∧ j ≤ n then Ky f p (j - 1) else Ky f p j := by
      intro j
      unfold Ky
      rw [bub_get (by omega) _ (by omega)]
      have e1 : n - (n - m) = m := by omega
      rw [e1]
      by_cases h1 : j = m
      · rw [if_pos h1, if_pos h1]
      · rw [if_neg h1, if_neg h1]
        by_cases h2 : m < j ∧ j ≤ n
        · rw [if_pos h2, if_pos h2]
        · rw [if_neg h2, if_neg h2]
    rw [K', K']
    by_cases h1 : i + 1 < m
    · rw [if_neg (by omega), if_neg (by omega), if_neg (by omega), if_neg (by omega)]
      exact u i (by omega)
    · by_cases h2 : i + 1 = m
      · rw [if_pos h2, if_neg (by omega), if_neg (by omega)]
        exact lo i (by omega)
      · by_cases h3 : i = m
        · rw [if_neg (by omega), if_pos (by omega), if_pos h3]
          have e1 : i + 1 - 1 = i := by omega
          rw [e1]
          exact o.asym _ _ (hi i (by omega) (by omega))
        · rw [if_neg (by omega), if_pos (by omega), if_neg h3, if_pos (by omega)]
          have := u (i - 1) (by omega)
          have e1 : i + 1 - 1 = i - 1 + 1 := by omega
          rw [e1]; exact this
theorem wp_sort (o : Ordr lt) (hc : Asks lt f N s cmp) (hN : 1 ≤ N) {Q : Array Nat → Shared → Prop} (hq : ∀ p, Good N p → UpTo lt f p N → Q p s) : (kas_sort N).kasWp cmp Q s := by
  unfold kas_sort
  rw [KasT.kasWp_bind]
  refine wp_count o hc hN ⟨.refl _⟩ fun m p' g h1 hm u => ?_
  dsimp only
  by_cases h : m < N
  · rw [if_pos h]
    have e : max m 1 = m := by omega
    rw [e]
    exact wp_bin o hc hN _ _ _ g (by omega) u hq
  · rw [if_neg h]
    have : m = N := by omega
    subst this
    exact hq p' g u
end
end L2
set_option Elab.async false
set_option linter.all false
set_option maxRecDepth 100000
namespace L2
open PySem PySem.Spec PyProof.Rows PySem.W
section
variable {prog : Program} {w : World} {A : Around} {E : Value → Shared → Prop} {s : Shared} {α : Type}
structure Comps (prog : Program) (w : World) (h : Heap) (vs : List Value) (lt : α → α → Bool) (f : Nat → α) : Prop where
  ex : 2 ≤ vs.length → ∃ κ : SortKind, (∀ (A' : Around) (E' : Value → Shared → Prop) (s' : Shared) (Q' : SortKind → Shared → Prop), Keeps h s'.heap → Q' κ s' → wpAny (model prog w) A' (keyKind' vs.toArray) Q' E' s') ∧
    ∀ (A' : Around) (s' : Shared) (i j : Nat) (C : Bool → Shared → Prop), A'.units + 2 < cLine → Keeps h s'.heap → i < vs.length → j < vs.length → C (lt (f i) (f j)) s' → wpAny (model prog w) A' (keyLt' κ (vs.getD i Value.none) (vs.getD j Value.none)) C (fun _ _ => False) s'
def byP (vs : List Value) (p : Array Nat) : List Value := p.toList.map fun i => vs.getD i Value.none
theorem any_sort {a : Addr} {vs : List Value} {n : Nat} {h0 : Heap} {lt : α → α → Bool} {f : Nat → α} {P : PySem.Fin → Shared → Prop} (o : Ordr lt) (hu : A.units + 2 < cLine) (hr : Comps prog w h0 vs lt f) (h64 : vs.length < 64) (ho : s.heap.get? a = some (seqObj "list" vs.toArray n)) (hk : ∀ b o, h0.get? b = some o → s.heap.get? b = some o ∧ b ≠ a)
    (h : ∀ p, Good vs.length p → UpTo lt f p vs.length → P (.done (.ret .none)) { s with heap := sortedHeap s.heap a vs (byP vs p).toArray }) : wpAny (model prog w) A (Builtin.«list.sort» ⟨[.ref a], []⟩) P E s := by
  rw [list_sort_plain]
  have ha : a < s.heap.objs.size := Heap.lt_size ho
  have hz : vs.length ≤ sizeLine := by rw [sizeLine_eq]; omega
  refine wpAny_bind (listItems_at ho rfl (wpAny_bind (listUpdate_at ho rfl ?_ (by show vs.toArray.size ≤ _; rw [List.size_toArray]; omega) (by show (#[] : Array Value).size ≤ _; simp))))
  have ho1 := get?_update_seq ho (fun _ => #[])
  refine wpAny_bind (seqEpoch_at ho1 rfl (wpAny_bind (wpAny_newTuple (wpAny_bind (wpAny_newList (wpAny_holding ?_) (by simp))) (by simpa using hz))))
  show wpAny (model prog w) A _ P E { s with heap := ((s.heap.update a (Obj.mapSeq fun _ => #[])).push (seqObj "tuple" vs.toArray 0)).push (seqObj "list" #[] 0) }
  have ho6 : (((s.heap.update a (Obj.mapSeq fun _ => #[])).push (seqObj "tuple" vs.toArray 0)).push (seqObj "list" #[] 0)).get? a = some _ := Heap.get?_push_of_some _ (Heap.get?_push_of_some _ ho1)
  have kp : Keeps h0 (((s.heap.update a (Obj.mapSeq fun _ => #[])).push (seqObj "tuple" vs.toArray 0)).push (seqObj "list" #[] 0)) := fun b o e => by
    obtain ⟨e1, e2⟩ := hk b o e
    refine Heap.get?_push_of_some _ (Heap.get?_push_of_some _ ?_)
    rw [Heap.get?_update_ne _ _ _ _ e2]; exact e1
  dsimp only
  by_cases h2 : vs.toArray.size < 2
  · rw [if_pos h2, if_pos h2]
    refine wpAny_bind (wpAny_pure ?_)
    rw [StateT.run_pure]
    refine wpAny_bind (wpAny_pure ?_)
    dsimp only
    have h2' : vs.length < 2 := by simpa using h2
    have gd : Good vs.length (List.range vs.length).toArray := ⟨.refl _⟩
    have up : UpTo lt f (List.range vs.length).toArray vs.length := fun i hi => by omega
    have eb : byP vs (List.range vs.length).toArray = vs := by
      unfold byP
      refine List.ext_getElem? fun i => ?_
      simp only [List.getElem?_map]
      by_cases hi : i < vs.length
      · simp [hi, List.getD_eq_getElem?_getD]
      · simp [hi]
    have h' := h _ gd up
    rw [eb] at h'
    have eo : (arrOf (SortSt.mk' general' (vs.toArray.zip vs.toArray) #[] 7 none)).map (·.2) = vs.toArray := by
      show (vs.toArray.zip vs.toArray).map (·.2) = _
      apply Array.toList_inj.mp
      simp [List.map_snd_zip]
    refine wpAny_bind (seqEpoch_at ho6 rfl ?_)
    rw [eo]
    refine wpAny_bind (listUpdate_at ho6 rfl ?_ (by simp) (by rw [List.size_toArray]; omega))
    simp only [bne_self_eq_false, Bool.false_eq_true, if_false]
    exact wpAny_pure h'
  · rw [if_neg h2, if_neg h2]
    have h2' : 2 ≤ vs.length := by simpa using h2
    obtain ⟨κ, hkind, hless⟩ := hr.ex h2'
    refine wpAny_bind (hkind _ _ _ _ kp ?_)
    refine wpAny_bind (wpAny_mono (kat_run (ks := vs) (vs := vs) (κ := κ) (E := E) (Q := fun st' s' => ∃ p, Good vs.length p ∧ UpTo lt f p vs.length ∧ (arrOf st').map (·.2) = (byP vs p).toArray ∧ failedOf st' = none ∧ s' = { s with heap := ((s.heap.update a (Obj.mapSeq fun _ => #[])).push (seqObj "tuple" vs.toArray 0)).push (seqObj "list" #[] 0) })
      (G := fun p s' => Good vs.length p ∧ UpTo lt f p vs.length ∧ s' = { s with heap := ((s.heap.update a (Obj.mapSeq fun _ => #[])).push (seqObj "tuple" vs.toArray 0)).push (seqObj "list" #[] 0) }) rfl h2' h64 (fun p st' s' hp har hf hG => ⟨p, hG.1, hG.2.1, ?_, hf, hG.2.2⟩) (wp_sort o (fun i j C hi hj hC => ?_) (by omega) fun p g u => ⟨g, u, rfl⟩)) ?_ fun _ _ e => e)
    · rw [kat_snds rfl har]; rfl
    · exact hless A _ i j C hu kp hi hj hC
    · rintro ⟨⟨⟩, st'⟩ s' ⟨p, g, u, eo, hf, rfl⟩
      dsimp only
      dsimp only at eo hf
      refine wpAny_bind (seqEpoch_at ho6 rfl ?_)
      rw [eo]
      refine wpAny_bind (listUpdate_at ho6 rfl ?_ (by simp) ?_)
      · rw [hf]
        simp only [bne_self_eq_false, Bool.false_eq_true, if_false]
        exact wpAny_pure (h p g u)
      · unfold byP
        rw [List.size_toArray, List.length_map, Array.length_toList, g.size]; omega
theorem any_sorted {l : Addr} {vs : List Value} {lt : α → α → Bool} {f : Nat → α} {Q : Value → Shared → Prop} (o : Ordr lt) (hu : A.units + 10 < cLine) (hr : Comps prog w s.heap vs lt f) (h64 : vs.length < 64) (hl : s.heap.IsList l vs.toArray)
    (h : ∀ p, Good vs.length p → UpTo lt f p vs.length → Q (.ref (s.heap.objs.size + 1)) { s with heap := sortedAll s.heap vs (byP vs p).toArray }) : wpAny (model prog w) A (call (.builtin "sorted") [.ref l]) Q E s := by
  have hz : vs.length ≤ sizeLine := by rw [sizeLine_eq]; omega
  refine Calls.call_function_entry kind_sorted plain_sorted entry_sorted (args_sorted1 _) ?_
  unfold Builtin.«sorted»
  refine wpAny_bind (m := checkCount "sorted" 1 1 _) (wpAny_pure (wpAny_bind (collect_list hl ?_ hz)))
  refine wpAny_bind (wpAny_newList ?_ (by simpa using hz))
  have e1 : ((s.heap.push (seqObj "list" #[] 0)).update s.heap.objs.size (Obj.mapSeq (· ++ vs.toArray))).objs.size = s.heap.objs.size + 1 := by rw [Heap.size_update, size_push']
  have e2 : (((s.heap.push (seqObj "list" #[] 0)).update s.heap.objs.size (Obj.mapSeq (· ++ vs.toArray))).push (seqObj "list" vs.toArray 0)).get? (s.heap.objs.size + 1) = some (seqObj "list" vs.toArray 0) := by
    rw [← e1]; exact Heap.get?_push_size _ rfl
  show wpAny _ _ _ _ _ { s with heap := ((s.heap.push (seqObj "list" #[] 0)).update s.heap.objs.size (Obj.mapSeq (· ++ vs.toArray))).push (seqObj "list" vs.toArray 0) }
  rw [e1]
  refine wpAny_bind (wpAny_holding (wpAny_call_entry slot_list_sort ⟨_, e2, rfl⟩ entry_list_sort (any_sort (h0 := s.heap) o (by show A.units + 1 + 1 + 2 < cLine; omega) hr h64 e2 (fun b o e => ⟨?_, Nat.ne_of_lt (Nat.lt_succ_of_lt (Heap.lt_size e))⟩) fun p g u => ⟨_, rfl, wpAny_pure ⟨_, rfl, h p g u⟩⟩) (args_list_sort _)))
  have hlt : b < s.heap.objs.size := Heap.lt_size e
  refine Heap.get?_push_of_some _ ?_
  rw [Heap.get?_update_ne _ _ _ _ (Nat.ne_of_lt hlt)]
  exact Heap.get?_push_of_some _ e
end
def cltB (a b : Cell) : Bool := decide (cellLt a b)
theorem clt_ord : Ordr cltB := by
  refine ⟨fun a b h => ?_, fun a b c h1 h2 => ?_, fun a b h1 h2 => ?_⟩
  · have := of_decide_eq_true h
    refine decide_eq_false ?_
    unfold cellLt at *; omega
  · have h1' := of_decide_eq_false h1
    have h2' := of_decide_eq_false h2
    refine decide_eq_false ?_
    unfold cellLt at *; omega
  · have h1' := of_decide_eq_false h1
    have h2' := of_decide_eq_false h2
    unfold cellLt at *
    exact Prod.ext (by omega) (by omega)
section
variable {X : Cx}
theorem cells_comps {pins : List (Addr × Obj)} {σ : L2.St} {H : Hp} {s : Shared} {vs : List V} {us : List Value} {cs : List Cell} (I : Inv X pins σ H s) (D : Dens X.K H vs (cs.map cellD)) (r : Vals vs us) : Comps X.prog X.w s.heap us cltB fun i => cs.getD i (0, 0) := by
  have hl : us.length = cs.length := by rw [← r.length, D.length, List.length_map]
  have at_ : ∀ i, (hi : i < cs.length) → ∃ (a : Addr) (o : Obj) (t t' : Tok) (n : Nat), us.getD i Value.none = .ref a ∧ s.heap.get? a = some o ∧ o.cls = .type "tuple" ∧ o.data = .seq #[.int cs[i].1 t, .int cs[i].2 t'] n := fun i hi => by
    have hv : i < vs.length := by rw [r.length, hl]; exact hi
    have ev : vs[i]? = some vs[i] := by simp [hv]
    obtain ⟨u, eu, ru⟩ := r.get ev
    obtain ⟨d, ed, dd⟩ := D.get ev
    rw [List.getElem?_map, List.getElem?_eq_getElem hi] at ed
    cases ed
    obtain ⟨a, o, t, t', n, rfl, h1, h2, h3⟩ := cell_obj I dd ru
    exact ⟨a, o, t, t', n, by rw [List.getD_eq_getElem?_getD, eu]; rfl, h1, h2, h3⟩
  refine ⟨fun h2 => ⟨tuples' true, fun A' E' s' Q' kp q => ?_, fun A' s' i j C hu kp hi hj hC => ?_⟩⟩
  · have kt : ∀ (cs : List Cell) (us : List Value), us.length = cs.length → (∀ i, (hi : i < cs.length) → ∃ (a : Addr) (o : Obj) (t t' : Tok) (n : Nat), us.getD i Value.none = .ref a ∧ s.heap.get? a = some o ∧ o.cls = .type "tuple" ∧ o.data = .seq #[.int cs[i].1 t, .int cs[i].2 t'] n) →
        ∃ fs : List Value, fs.length = us.length ∧ (∀ f ∈ fs, ∃ i t, f = Value.int i t) ∧ KatTups s'.heap us fs := by
      intro cs
      induction cs with
      | nil =>
        intro us e _
        cases us with
        | nil => exact ⟨[], rfl, (fun f hf => by cases hf), .nil⟩
        | cons a b => simp at e
      | cons c cs ih =>
        intro us e h
        cases us with
        | nil => simp at e
        | cons u us =>
          obtain ⟨a, o, t, t', n, e1, e2, e3, e4⟩ := h 0 (by simp)
          have eu : u = .ref a := e1
          subst eu
          obtain ⟨fs, f1, f2, f3⟩ := ih us (by simpa using e) fun i hi => by
            have := h (i + 1) (by simpa using hi)
            simpa using this
          refine ⟨.int c.1 t :: fs, by simp [f1], fun f hf => ?_, KatTups.cons (kp _ _ e2) e3 e4 rfl f3⟩
          rcases List.mem_cons.mp hf with z | z
          · exact ⟨_, _, z⟩
          · exact f2 f z
    obtain ⟨fs, f1, f2, f3⟩ := kt cs us hl at_
    refine kat_kind (T := .type "int") f3 (by omega) (fun v hv => ?_) (by decide) ?_
    · obtain ⟨i, t, rfl⟩ := f2 v hv
      exact Looks.of_pure rfl
    · exact q
  · rw [hl] at hi hj
    obtain ⟨a, o, t, t', n, e1, e2, e3, e4⟩ := at_ i hi
    obtain ⟨b, o2, t2, t2', n2, g1, g2, g3, g4⟩ := at_ j hj
    rw [e1, g1]
    have ci : cs.getD i (0, 0) = cs[i] := by rw [List.getD_eq_getElem?_getD, List.getElem?_eq_getElem hi]; rfl
    have cj : cs.getD j (0, 0) = cs[j] := by rw [List.getD_eq_getElem?_getD, List.getElem?_eq_getElem hj]; rfl
    rw [ci, cj] at hC
    refine kat_lt (kp _ _ e2) e4 (kp _ _ g2) g4 ?_
    have out : ∀ x : Bool, (x = true ↔ cellLt cs[i] cs[j]) → C x s' := fun x hx => by
      have : x = cltB cs[i] cs[j] := by
        unfold cltB
        cases x
        · exact (decide_eq_false fun z => by have := hx.mpr z; cases this).symm
        · exact (decide_eq_true (hx.mp rfl)).symm
      rw [this]; exact hC
    refine kat_cons (wpAny_eqBool_int ?_)
    by_cases q1 : cs[i].1 = cs[j].1
    · rw [show (cs[i].1 == cs[j].1) = true from beq_iff_eq.mpr q1]
      refine kat_yes (kat_cons (wpAny_eqBool_int ?_))
      by_cases q2 : cs[i].2 = cs[j].2
      · rw [show (cs[i].2 == cs[j].2) = true from beq_iff_eq.mpr q2]
        refine kat_yes (kat_nil (out _ ⟨fun z => ?_, fun z => ?_⟩))
        · have := of_decide_eq_true z; simp at this
        · unfold cellLt at z; omega
      · rw [show (cs[i].2 == cs[j].2) = false from beq_eq_false_iff_ne.mpr q2]
        refine kat_no (kat_one _ _ (lt_int (out _ ?_)))
        rw [decide_eq_true_iff]; unfold cellLt; omega
    · rw [show (cs[i].1 == cs[j].1) = false from beq_eq_false_iff_ne.mpr q1]
      refine kat_no (oneLt_int (out _ ?_))
      rw [decide_eq_true_iff]; unfold cellLt; omega
theorem vals_by {vs : List V} {us : List Value} (r : Vals vs us) : ∀ (ps : List Nat), (∀ i ∈ ps, i < vs.length) → Vals (ps.map fun i => vs.getD i .non) (ps.map fun i => us.getD i Value.none)
  | [], _ => .nil
  | i :: ps, h => by
    have hi := h i List.mem_cons_self
    obtain ⟨u, eu, ru⟩ := r.get (show vs[i]? = some vs[i] from by simp [hi])
    have e1 : vs.getD i .non = vs[i] := by simp [List.getD_eq_getElem?_getD, hi]
    have e2 : us.getD i Value.none = u := by rw [List.getD_eq_getElem?_getD, eu]; rfl
    rw [List.map_cons, List.map_cons, e1, e2]
    exact .cons ru (vals_by r ps fun j hj => h j (List.mem_cons_of_mem _ hj))
theorem dens_by {K : PySem.W.Frag} {H : Hp} {vs : List V} {ds : List Dt} {d0 : Dt} (D : Dens K H vs ds) : ∀ (ps : List Nat), (∀ i ∈ ps, i < vs.length) → Dens K H (ps.map fun i => vs.getD i .non) (ps.map fun i => ds.getD i d0)
  | [], _ => .nil
  | i :: ps, h => by
    have hi := h i List.mem_cons_self
    obtain ⟨d, ed, dd⟩ := D.get (show vs[i]? = some vs[i] from by simp [hi])
    have e1 : vs.getD i .non = vs[i] := by simp [List.getD_eq_getElem?_getD, hi]
    have e2 : ds.getD i d0 = d := by rw [List.getD_eq_getElem?_getD, ed]; rfl
    rw [List.map_cons, List.map_cons, e1, e2]
    exact .cons dd (dens_by D ps fun j hj => h j (List.mem_cons_of_mem _ hj))
theorem perm_by {β : Type} {xs : List β} {d : β} {ps : List Nat} (h : ps.Perm (List.range xs.length)) : (ps.map fun i => xs.getD i d).Perm xs := by
  have e : (List.range xs.length).map (fun i => xs.getD i d) = xs := by
    refine List.ext_getElem? fun i => ?_
    simp only [List.getElem?_map]
    by_cases hi : i < xs.length
    · simp [hi, List.getD_eq_getElem?_getD]
    · simp [hi]
  exact (h.map _).trans (by rw [e])
def Asc (cs : List Cell) : Prop := cs.Pairwise fun a b => ¬ cellLt b a
def rSortC (K : PySem.W.Frag) : List V → Hp → VK → Prop := fun xs H Q => ∃ (p : Addr) (vs : List V) (cs : List Cell), xs = [.ref p] ∧ SqL K H p vs ∧ Dens K H vs (cs.map cellD) ∧ cs.length < 64 ∧ ∀ l ws ds, H l = none → ws.Perm vs → Dens K H ws (ds.map cellD) → ds.Perm cs → Asc ds → Q (.ref l) (upd H l (.lst ws))
theorem call_sortC (hu : X.A.units + 60 < cLine) : CallR X (.builtin "sorted") (rSortC X.K) := by
  intro pins s σ H xs us Q I r h
  obtain ⟨p, vs, cs, rfl, hS, D, h64, q⟩ := h
  obtain ⟨u, rfl, ru⟩ := vals1 r
  cases ru
  obtain ⟨its, rv, pl, hz⟩ := I.list hS
  have hl : its.length = cs.length := by rw [← rv.length, D.length, List.length_map]
  have hv : vs.length = its.length := rv.length
  refine any_sorted clt_ord (by omega) (cells_comps I D rv) (by omega) pl.isList fun o g up => ?_
  obtain ⟨e, he⟩ := sortedAll_at s.heap its (byP its o).toArray
  have hn : H (s.heap.objs.size + 1) = none := I.hok.fresh (Nat.le_succ _)
  have bd : ∀ i ∈ o.toList, i < vs.length := fun i hi => by rw [hv]; exact List.mem_range.mp (g.perm.mem_iff.mp hi)
  have rv' : Vals (o.toList.map fun i => vs.getD i .non) (byP its o) := vals_by rv o.toList bd
  have pv : (o.toList.map fun i => vs.getD i .non).Perm vs := perm_by (by rw [hv]; exact g.perm)
  have dv : Dens X.K H (o.toList.map fun i => vs.getD i .non) ((o.toList.map fun i => cs.getD i (0, 0)).map cellD) := by
    have := dens_by (d0 := cellD (0, 0)) D o.toList bd
    have e1 : (o.toList.map fun i => (cs.map cellD).getD i (cellD (0, 0))) = ((o.toList.map fun i => cs.getD i (0, 0)).map cellD) := by
      rw [List.map_map]
      refine List.map_congr_left fun i hi => ?_
      simp only [List.getD_eq_getElem?_getD, List.getElem?_map, Function.comp]
      cases cs[i]? <;> rfl
    rw [← e1]; exact this
  have pc : (o.toList.map fun i => cs.getD i (0, 0)).Perm cs := perm_by (by rw [← hl]; exact g.perm)
  have as : Asc (o.toList.map fun i => cs.getD i (0, 0)) := by
    unfold Asc
    rw [List.pairwise_iff_getElem]
    intro i j hi hj hij
    rw [List.length_map, Array.length_toList, g.size] at hi hj
    have := up.le clt_ord (j - i) i (by omega)
    have e1 : i + (j - i) = j := by omega
    rw [e1] at this
    have := of_decide_eq_false this
    have sz := g.size
    have a1 : Ky (fun i => cs.getD i (0, 0)) o i = (o.toList.map fun i => cs.getD i (0, 0))[i] := by
      unfold Ky
      rw [List.getElem_map, Array.getD_eq_getD_getElem?, Array.getElem?_eq_getElem (by omega)]
      rfl
    have a2 : Ky (fun i => cs.getD i (0, 0)) o j = (o.toList.map fun i => cs.getD i (0, 0))[j] := by
      unfold Ky
      rw [List.getElem_map, Array.getD_eq_getD_getElem?, Array.getElem?_eq_getElem (by omega)]
      rfl
    rw [← a1, ← a2]; exact this
  have hz' : (o.toList.map fun i => vs.getD i .non).length ≤ sizeLine := by rw [pv.length_eq]; exact hz
  exact ⟨.ref (s.heap.objs.size + 1), upd H (s.heap.objs.size + 1) (.lst (o.toList.map fun i => vs.getD i .non)), I.laid (a := s.heap.objs.size + 1) (o := .lst (o.toList.map fun i => vs.getD i .non)) (t' := s.toks) (fun b o q => sortedAll_old q) (Nat.le_succ _) ⟨hz', byP its o, e, rv', he⟩, rfl, q _ _ _ hn pv dv pc as⟩
theorem k_sortC {K : PySem.W.Frag} (hu : X.A.units + 60 < cLine) (hK : X.K = K := by rfl) : CallR X (.builtin "sorted") (rSortC K) := by subst hK; exact call_sortC hu
end
end L2
set_option Elab.async false
set_option linter.all false
set_option maxRecDepth 100000
namespace L2
open PySem PySem.Spec PyProof.Rows PySem.SeqAt PySem.MeetsSeq PySem.MeetsSeq2 PySem.MeetsSeq3
open PySem.AutoSeq1 (wpAny_loadPart')
theorem rcGe_int (A : Around) (s : Shared) (a : Int) (t : Tok) (c : Int) (u : Tok) (prog : Program) (w : World) (E : Value → Shared → Prop) (Q : Value → Shared → Prop) (h : Q (.bool (decide (c ≤ a))) s) : wpAny (model prog w) A (richCompare .GtE (.int a t) (.int c u)) Q E s :=
  (ge_int h : wpAny (model prog w) A (compareOp .GtE (.int a t) (.int c u)) Q E s)
theorem ge_pair (p q : Addr) (x1 x2 y1 y2 : Int) (t1 t2 u1 u2 : Tok) (n m : Nat) (d1 d2 : Option Addr) (z1 z2 : Array (Option Value)) : Meets (Builtin.«tuple.__ge__» ⟨[.ref p, .ref q], []⟩)
    (fun _ R s => s.heap.get? p = some { cls := .type "tuple", dict := d1, data := .seq #[.int x1 t1, .int x2 t2] n, slots := z1 } ∧ s.heap.get? q = some { cls := .type "tuple", dict := d2, data := .seq #[.int y1 u1, .int y2 u2] m, slots := z2 } ∧ R (.ok (.ret (.bool (!cltB (x1, x2) (y1, y2))))) s) :=
  .of_wp fun prog w A R s h => by
    obtain ⟨hp, g, d, tk, os⟩ := s; obtain ⟨e1, e2, h⟩ := h
    have f2 := AutoSeq1.sub_tuple_tuple
    have k1 := fun (Q : Bool → Shared → Prop) (E : Value → Shared → Prop) (h : Q (x1 == y1) ⟨hp, g, d, tk, os⟩) => (wpAny_eqBool_int (t := t1) (u := u1) h : wpAny (model prog w) A.in1 (eqBool (.int x1 t1) (.int y1 u1)) Q E ⟨hp, g, d, tk, os⟩)
    have k2 := fun (Q : Bool → Shared → Prop) (E : Value → Shared → Prop) (h : Q (x2 == y2) ⟨hp, g, d, tk, os⟩) => (wpAny_eqBool_int (t := t2) (u := u2) h : wpAny (model prog w) A.in1 (eqBool (.int x2 t2) (.int y2 u2)) Q E ⟨hp, g, d, tk, os⟩)
    have r1 := rcGe_int A.in1 ⟨hp, g, d, tk, os⟩ x1 t1 y1 u1 prog w
    have r2 := rcGe_int A.in1 ⟨hp, g, d, tk, os⟩ x2 t2 y2 u2 prog w
    have out : ∀ b : Bool, (b = true ↔ ¬ cellLt (x1, x2) (y1, y2)) → R (.ok (.ret (.bool b))) ⟨hp, g, d, tk, os⟩ := fun b hb => by
      have : b = !cltB (x1, x2) (y1, y2) := by
        unfold cltB
        by_cases hc : cellLt (x1, x2) (y1, y2)
        · rw [decide_eq_true hc]
          cases b
          · rfl
          · exact absurd hc (hb.mp rfl)
        · rw [decide_eq_false hc]; exact hb.mpr hc
      rw [this]; exact h
    wp_walk using wpAny_loadPart' e1, wpAny_loadPart' e2, k1, k2
    by_cases q1 : x1 = y1
    · rw [show (x1 == y1) = true from beq_iff_eq.mpr q1]
      wp_walk using k2
      by_cases q2 : x2 = y2
      · rw [show (x2 == y2) = true from beq_iff_eq.mpr q2]
        wp_walk
        refine ⟨_, rfl, out _ ?_⟩
        simp [Builtin.Tuple.tupleCompareSizes, cellLt, q1, q2]
      · rw [show (x2 == y2) = false from beq_eq_false_iff_ne.mpr q2]
        wp_walk using r2
        refine ⟨_, rfl, out _ ?_⟩
        rw [decide_eq_true_iff]; unfold cellLt; dsimp only; omega
    · rw [show (x1 == y1) = false from beq_eq_false_iff_ne.mpr q1]
      wp_walk using r1
      refine ⟨_, rfl, out _ ?_⟩
      rw [decide_eq_true_iff]; unfold cellLt; dsimp only; omega
section
variable {X : Cx} {K : PySem.W.Frag}
def rGeC (K : PySem.W.Frag) : R2 := fun x y H Q => ∃ (a b : Cell), Den K H x (cellD a) ∧ Den K H y (cellD b) ∧ Q (.bl (!cltB a b)) H
theorem op_geC (hu : X.A.units + 60 < cLine) : OpR X (compareOp .GtE) (rGeC X.K) := by
  intro pins s σ H x y v u Q I rx ry h
  obtain ⟨a, b, da, db, q⟩ := h
  obtain ⟨p, o, t1, t2, n, rfl, e1, c1, f1⟩ := cell_obj I da rx
  obtain ⟨p', o', u1, u2, m, rfl, e2, c2, f2⟩ := cell_obj I db ry
  obtain ⟨oc, od, of, os⟩ := o
  obtain ⟨oc', od', of', os'⟩ := o'
  dsimp only at c1 f1 c2 f2
  subst c1 f1 c2 f2
  refine richCompare_meets_room (op := .GtE) ⟨_, e1, rfl⟩ ⟨_, e2, rfl⟩ PySem.F.slot_tuple_ge PySem.F.entry_tuple_ge (PySem.F.args_tuple_ge_2 _ _) (ge_pair p p' a.1 a.2 b.1 b.2 t1 t2 u1 u2 n m od od' os os') ⟨e1, e2, ?_⟩ (by omega)
  exact (show Value.bool (!cltB a b) ≠ Value.notImplemented ∧ EP X pins σ Q (.bool (!cltB a b)) s from ⟨(fun z => nomatch z), ⟨.bl (!cltB a b), H, I, rfl, q⟩⟩)
theorem k_geC (hu : X.A.units + 60 < cLine) (hK : X.K = K := by rfl) : OpR X (compareOp .GtE) (rGeC K) := by subst hK; exact op_geC hu
end
end L2
set_option Elab.async false
set_option linter.all false
set_option maxRecDepth 100000
namespace L2
open PySem PySem.Spec PyProof.Rows
def figOf (zs : List Str) (c : Cell) : Int := (codeAt zs (c.1.toNat, c.2.toNat) : Int) - 48
def stonesN (h w : Int) (c : Cell) (cs : List Cell) : Nat := ((lnear h w c).filter fun y => decide (y ∈ cs)).length
def ascB (cs : List Cell) : Bool := (List.range (cs.length - 1)).all fun j => cltB (cs.getD j (0, 0)) (cs.getD (j + 1) (0, 0))
def layB (zs : List Str) (w : Nat) (cs : List Cell) : Bool := ascB cs && cs.all (closedB zs w)
def trueB (zs : List Str) (w : Nat) (cs : List Cell) (c : Cell) : Bool := decide (figOf zs c = (stonesN zs.length w c cs : Int))
def keepB (zs : List Str) (w : Nat) (cs : List Cell) : Bool := (fieldL zs.length w).all fun c => closedB zs w c || trueB zs w cs c
theorem clt_trans {a b c : Cell} (h1 : cellLt a b) (h2 : cellLt b c) : cellLt a c := by unfold cellLt at *; omega
theorem asc_iff (cs : List Cell) : ascB cs = true ↔ cs.Pairwise cellLt := by
  unfold ascB
  rw [List.all_eq_true]
  constructor
  · intro h
    have step : ∀ d i, i + d + 1 < cs.length → cellLt (cs.getD i (0, 0)) (cs.getD (i + d + 1) (0, 0)) := by
      intro d
      induction d with
      | zero => intro i hi; exact of_decide_eq_true (h i (List.mem_range.mpr (by omega)))
      | succ d ih => intro i hi; exact clt_trans (ih i (by omega)) (of_decide_eq_true (h (i + d + 1) (List.mem_range.mpr (by omega))))
    rw [List.pairwise_iff_getElem]
    intro i j hi hj hij
    have := step (j - i - 1) i (by omega)
    have e : i + (j - i - 1) + 1 = j := by omega
    rw [e] at this
    simpa [List.getD_eq_getElem?_getD, hi, hj] using this
  · intro h j hj
    rw [List.mem_range] at hj
    have := (List.pairwise_iff_getElem.mp h) j (j + 1) (by omega) (by omega) (by omega)
    refine decide_eq_true ?_
    have h1 : j < cs.length := by omega
    have h2 : j + 1 < cs.length := by omega
    simpa [List.getD_eq_getElem?_getD, h1, h2] using this
theorem lay_of {zs : List Str} {w : Nat} {cs : List Cell} (h1 : cs.Pairwise cellLt) (h2 : ∀ c ∈ cs, closedB zs w c = true) : layB zs w cs = true := by
  unfold layB
  rw [(asc_iff cs).mpr h1, Bool.true_and, List.all_eq_true]; exact h2
theorem field_asc : ∀ h ∈ List.range 7, ∀ w ∈ List.range 7, (fieldL h w).Pairwise cellLt := by decide +kernel
theorem asc_strict {cs : List Cell} (h : Asc cs) (nd : cs.Nodup) : cs.Pairwise cellLt := by
  unfold Asc at h
  have : cs.Pairwise fun a b => ¬ cellLt b a ∧ a ≠ b := h.and nd
  exact this.imp fun {a b} hab => by
    obtain ⟨h1, h2⟩ := hab
    have h3 : ¬ (a.1 = b.1 ∧ a.2 = b.2) := fun z => h2 (Prod.ext z.1 z.2)
    unfold cellLt at *; omega
theorem strict_nodup {cs : List Cell} (h : cs.Pairwise cellLt) : cs.Nodup := h.imp fun {a b} hab e => by
  subst e
  unfold cellLt at hab; omega
end L2
set_option Elab.async false
set_option linter.all false
set_option maxRecDepth 100000
namespace L2
open PySem PySem.Spec PyProof.Rows
section
variable {κ : Type} [DecidableEq κ]
def valV (kvs : List (κ × V)) (k : κ) : Option V := (kvs.find? fun kv => decide (kv.1 = k)).map (·.2)
def putK (kvs : List (κ × V)) (k : κ) (v : V) : List (κ × V) :=
  if (kvs.any fun kv => decide (kv.1 = k)) = true then kvs.map (fun kv => if kv.1 = k then (kv.1, v) else kv) else kvs ++ [(k, v)]
def dropK (kvs : List (κ × V)) (k : κ) : List (κ × V) := kvs.filter fun kv => decide (kv.1 ≠ k)
theorem valV_pos {p : κ × V} {r : List (κ × V)} {k : κ} (e : p.1 = k) : valV (p :: r) k = some p.2 := by simp [valV, List.find?_cons, e]
theorem valV_neg {p : κ × V} {r : List (κ × V)} {k : κ} (e : ¬ p.1 = k) : valV (p :: r) k = valV r k := by simp [valV, List.find?_cons, e]
theorem valV_any (k : κ) : ∀ kvs : List (κ × V), (kvs.any fun kv => decide (kv.1 = k)) = (valV kvs k).isSome
  | [] => rfl
  | p :: r => by
    rw [List.any_cons]
    by_cases e : p.1 = k
    · simp only [valV_pos e, decide_eq_true e, Bool.true_or, Option.isSome_some]
    · rw [valV_neg e, decide_eq_false e, Bool.false_or]; exact valV_any k r
theorem length_putK (kvs : List (κ × V)) (k : κ) (v : V) : (putK kvs k v).length ≤ kvs.length + 1 := by
  unfold putK
  split
  · rw [List.length_map]; omega
  · rw [List.length_append, List.length_cons, List.length_nil]; omega
theorem putK_new {kvs : List (κ × V)} {k : κ} (v : V) (h : valV kvs k = none) : putK kvs k v = kvs ++ [(k, v)] := by
  unfold putK
  rw [valV_any, h]
  exact if_neg (by decide)
theorem RelO.isSome_eq {o : Option V} {u : Option Value} (r : RelO o u) : o.isSome = u.isSome := by
  cases o with
  | none => cases u with
    | none => rfl
    | some _ => exact (show False from r).elim
  | some _ => cases u with
    | none => exact (show False from r).elim
    | some _ => rfl
theorem RelO.getD {o : Option V} {u : Option Value} {d : V} {d' : Value} (r : RelO o u) (rd : RelV d d') : RelV (o.getD d) (u.getD d') := by
  cases o with
  | none => cases u with
    | none => exact rd
    | some _ => exact (show False from r).elim
  | some _ => cases u with
    | none => exact (show False from r).elim
    | some _ => exact r
theorem KV.val {kvs : List (κ × V)} {vs : List (κ × Value)} (r : KV kvs vs) (k : κ) : RelO (valV kvs k) (valueAt vs k) := by
  unfold KV at r
  induction r with
  | nil => exact True.intro
  | @cons p q ps qs h t ih =>
    obtain ⟨h1, h2⟩ := h
    by_cases e : p.1 = k
    · have e' : q.1 = k := h1.symm.trans e
      have b : valueAt (q :: qs) k = some q.2 := by simp [valueAt, List.find?_cons, e']
      rw [valV_pos e, b]; exact h2
    · have e' : ¬ q.1 = k := fun z => e (h1.trans z)
      have b : valueAt (q :: qs) k = valueAt qs k := by simp [valueAt, List.find?_cons, e']
      rw [valV_neg e, b]; exact ih
theorem KV.any {kvs : List (κ × V)} {vs : List (κ × Value)} (r : KV kvs vs) (k : κ) : (kvs.any fun kv => decide (kv.1 = k)) = vs.any fun kv => decide (kv.1 = k) := by
  unfold KV at r
  induction r with
  | nil => rfl
  | cons h t ih => rw [List.any_cons, List.any_cons, ih, h.1]
theorem KV.repl {kvs : List (κ × V)} {vs : List (κ × Value)} (r : KV kvs vs) (k : κ) {y : V} {u : Value} (ry : RelV y u) :
    KV (kvs.map fun kv => if kv.1 = k then (kv.1, y) else kv) (vs.map fun kv => if kv.1 = k then (kv.1, u) else kv) := by
  unfold KV at r ⊢
  induction r with
  | nil => exact .nil
  | @cons p q ps qs h t ih =>
    rw [List.map_cons, List.map_cons]
    refine .cons ?_ ih
    obtain ⟨h1, h2⟩ := h
    by_cases e : p.1 = k
    · rw [if_pos e, if_pos (h1.symm.trans e)]; exact ⟨h1, ry⟩
    · rw [if_neg e, if_neg (fun z => e (h1.trans z))]; exact ⟨h1, h2⟩
theorem KV.put {kvs : List (κ × V)} {vs : List (κ × Value)} (r : KV kvs vs) (k : κ) {y : V} {u : Value} (ry : RelV y u) : KV (putK kvs k y) (stored vs k u) := by
  unfold putK stored
  rw [r.any k]
  by_cases e : (vs.any fun kv => decide (kv.1 = k)) = true
  · rw [if_pos e, if_pos e]; exact r.repl k ry
  · rw [if_neg e, if_neg e]; exact Paired.snoc r ⟨rfl, ry⟩
theorem KV.drop {kvs : List (κ × V)} {vs : List (κ × Value)} (r : KV kvs vs) (k : κ) : KV (dropK kvs k) (without vs k) := by
  unfold KV at r ⊢
  unfold dropK without
  induction r with
  | nil => exact .nil
  | @cons p q ps qs h t ih =>
    obtain ⟨h1, h2⟩ := h
    rw [List.filter_cons, List.filter_cons]
    by_cases e : p.1 = k
    · have a : ¬ decide (p.1 ≠ k) = true := by simp [e]
      have b : ¬ decide (q.1 ≠ k) = true := by simp [h1.symm.trans e]
      rw [if_neg a, if_neg b]; exact ih
    · have e' : ¬ q.1 = k := fun z => e (h1.trans z)
      have a : decide (p.1 ≠ k) = true := by simp [e]
      have b : decide (q.1 ≠ k) = true := by simp [e']
      rw [if_pos a, if_pos b]; exact .cons ⟨h1, h2⟩ ih
theorem KV.length {kvs : List (κ × V)} {vs : List (κ × Value)} (r : KV kvs vs) : kvs.length = vs.length := Paired.length r
end
theorem kV_is {P : Program} {w : World} {k : Key} {u : Value} (r : RelV (kV k) u) : (mixKind P w).is k u = true := by
  cases k with
  | inl i => obtain ⟨t, e⟩ := (show ∃ t, u = Value.int i t from r); subst e; exact mixKind_int P w i t
  | inr x => obtain ⟨t, e⟩ := (show ∃ t, u = Value.str x t from r); subst e; exact mixKind_str P w x t
theorem items_are {P : Program} {w : World} : ∀ {ks : List Key} {us : List Value}, Vals (ks.map kV) us → ItemsAre (mixKind P w) ks us
  | [], _, r => by rw [List.map_nil] at r; cases r; exact .nil
  | k :: ks, _, r => by
    rw [List.map_cons] at r
    cases r with
    | cons h t => exact .cons (kV_is h) (items_are t)
abbrev KT (H : Hp) : List (List Key × V) → List (List Key × Addr × Value) → Prop := Paired fun p q => p.1 = q.1 ∧ H q.2.1 = some (.tup (p.1.map kV)) ∧ RelV p.2 q.2.2
theorem KT.val {H : Hp} {kvs : List (List Key × V)} {xs : List (List Key × Addr × Value)} (r : KT H kvs xs) (k : List Key) : RelO (valV kvs k) ((atKey xs k).map (·.2)) := by
  induction r with
  | nil => exact True.intro
  | @cons p q ps qs h t ih =>
    obtain ⟨h1, _, h2⟩ := h
    by_cases e : p.1 = k
    · have e' : q.1 = k := h1.symm.trans e
      have b : atKey (q :: qs) k = some q.2 := by simp [atKey, List.find?_cons, e']
      rw [valV_pos e, b]; exact h2
    · have e' : ¬ q.1 = k := fun z => e (h1.trans z)
      have b : atKey (q :: qs) k = atKey qs k := by simp [atKey, List.find?_cons, e']
      rw [valV_neg e, b]; exact ih
theorem KT.repl {H : Hp} {kvs : List (List Key × V)} {xs : List (List Key × Addr × Value)} (r : KT H kvs xs) (k : List Key) {y : V} {u : Value} (ry : RelV y u) :
    KT H (kvs.map fun kv => if kv.1 = k then (kv.1, y) else kv) (xs.map (putAt k u)) := by
  induction r with
  | nil => exact .nil
  | @cons p q ps qs h t ih =>
    rw [List.map_cons, List.map_cons]
    refine .cons ?_ ih
    obtain ⟨h1, h2, h3⟩ := h
    unfold putAt
    by_cases e : p.1 = k
    · rw [if_pos e, if_pos (h1.symm.trans e)]; exact ⟨h1, h2, ry⟩
    · rw [if_neg e, if_neg (fun z => e (h1.trans z))]; exact ⟨h1, h2, h3⟩
theorem KT.put {H : Hp} {kvs : List (List Key × V)} {xs : List (List Key × Addr × Value)} (r : KT H kvs xs) (k : List Key) {b : Addr} {y : V} {u : Value} (hb : H b = some (.tup (k.map kV))) (ry : RelV y u) :
    KT H (putK kvs k y) (storedH xs k b u) := by
  have e : (kvs.any fun kv => decide (kv.1 = k)) = (atKey xs k).isSome := by
    rw [valV_any, (r.val k).isSome_eq, Option.isSome_map]
  unfold putK storedH
  rw [e]
  by_cases q : (atKey xs k).isSome = true
  · rw [if_pos q, if_pos q]; exact r.repl k ry
  · rw [if_neg q, if_neg q]; exact Paired.snoc r ⟨rfl, hb, ry⟩
theorem KT.keeps {H H' : Hp} {kvs : List (List Key × V)} {xs : List (List Key × Addr × Value)} (r : KT H kvs xs) (ht : ∀ b ys, H b = some (.tup ys) → H' b = some (.tup ys)) : KT H' kvs xs :=
  Paired.mapP r fun _ _ z => ⟨z.1, ht _ _ z.2.1, z.2.2⟩
section
variable {P : Program} {w : World} {H : Hp} {h : Heap} {a : Addr}
theorem rd_of {u : HO} (ok : HOk P w H h) (e : Rd H a u) : ObjOk P w H h a u := e.ok ok
theorem dk_rd {kvs : List (Key × V)} (ok : HOk P w H h) (e : Rd H a (.dK kvs)) : kvs.length ≤ sizeLine ∧ (a == sysModules) = false ∧ ∃ vs, KV kvs vs ∧ h.DictOf (mixKind P w) a vs :=
  show ObjOk P w H h a (.dK kvs) from rd_of ok e
theorem dk_of {kvs : List (Key × V)} (ok : HOk P w H h) (e : H a = some (.dK kvs)) : kvs.length ≤ sizeLine ∧ (a == sysModules) = false ∧ ∃ vs, KV kvs vs ∧ h.DictOf (mixKind P w) a vs := dk_rd ok (.inl e)
theorem key_of {ks : List Key} (ok : HOk P w H h) (e : H a = some (.tup (ks.map kV))) : (tupleKind (mixKind P w)).is h ks a := by
  obtain ⟨_, its, r, o, h1, h2, n, h3⟩ := (show ObjOk P w H h a (.tup (ks.map kV)) from ok a _ e)
  exact ⟨o, its.toArray, n, h1, h2, h3, by simpa using items_are r⟩
theorem dt_rd {kvs : List (List Key × V)} (ok : HOk P w H h) (e : Rd H a (.dT kvs)) : kvs.length ≤ sizeLine ∧ (a == sysModules) = false ∧
    ∃ xs, KT H kvs xs ∧ h.DictOfH (tupleKind (mixKind P w)) a xs := by
  obtain ⟨z, y, xs, r, o, es, ep, h1, h2, h3, h4, h5⟩ := (show ObjOk P w H h a (.dT kvs) from rd_of ok e)
  refine ⟨z, y, xs, r, o, es, ep, h1, h2, h3, h4, fun x hx => ?_, h5⟩
  have all : ∀ {l : List (List Key × V)} {m : List (List Key × Addr × Value)}, KT H l m → ∀ x ∈ m, (tupleKind (mixKind P w)).is h x.1 x.2.1 := by
    intro l m q
    induction q with
    | nil => intro x hx; exact nomatch hx
    | @cons p q ps qs hq t ih =>
      intro x hx
      rcases List.mem_cons.mp hx with e | hx
      · subst e
        exact key_of ok (by rw [← hq.1]; exact hq.2.1)
      · exact ih x hx
  exact all r x hx
theorem dt_of {kvs : List (List Key × V)} (ok : HOk P w H h) (e : H a = some (.dT kvs)) : kvs.length ≤ sizeLine ∧ (a == sysModules) = false ∧
    ∃ xs, KT H kvs xs ∧ h.DictOfH (tupleKind (mixKind P w)) a xs := dt_rd ok (.inl e)
end
def DGet (H : Hp) (a : Addr) (y : V) (r : Option V) : Prop :=
  (∃ kvs k, Rd H a (.dK kvs) ∧ y = kV k ∧ r = valV kvs k) ∨ ∃ kvs k b, Rd H a (.dT kvs) ∧ y = .ref b ∧ H b = some (.tup (k.map kV)) ∧ r = valV kvs k
def DPut (H : Hp) (a : Addr) (y v : V) (H' : Hp) : Prop :=
  (∃ kvs k, H a = some (.dK kvs) ∧ y = kV k ∧ kvs.length < sizeLine ∧ H' = upd H a (.dK (putK kvs k v))) ∨
  ∃ kvs k b, H a = some (.dT kvs) ∧ y = .ref b ∧ H b = some (.tup (k.map kV)) ∧ kvs.length < sizeLine ∧ H' = upd H a (.dT (putK kvs k v))
theorem DGet.k {H : Hp} {a : Addr} {kvs : List (Key × V)} {k : Key} (e : H a = some (.dK kvs)) : DGet H a (kV k) (valV kvs k) := .inl ⟨kvs, k, .inl e, rfl, rfl⟩
theorem DGet.t {H : Hp} {a b : Addr} {kvs : List (List Key × V)} {k : List Key} (e : H a = some (.dT kvs)) (eb : H b = some (.tup (k.map kV))) : DGet H a (.ref b) (valV kvs k) := .inr ⟨kvs, k, b, .inl e, rfl, eb, rfl⟩
theorem DPut.k {H : Hp} {a : Addr} {kvs : List (Key × V)} {k : Key} {v : V} (e : H a = some (.dK kvs)) (hl : kvs.length < sizeLine) : DPut H a (kV k) v (upd H a (.dK (putK kvs k v))) := .inl ⟨kvs, k, e, rfl, hl, rfl⟩
theorem DPut.t {H : Hp} {a b : Addr} {kvs : List (List Key × V)} {k : List Key} {v : V} (e : H a = some (.dT kvs)) (eb : H b = some (.tup (k.map kV))) (hl : kvs.length < sizeLine) :
    DPut H a (.ref b) v (upd H a (.dT (putK kvs k v))) := .inr ⟨kvs, k, b, e, rfl, eb, hl, rfl⟩
section
variable {X : Cx} {pins : List (Addr × Obj)} {σ : St} {H : Hp} {s : Shared} {a : Addr} {y v : V} {u r : Value} {o : Option V} {A : Around} {E : Value → Shared → Prop}
theorem Inv.big (I : Inv X pins σ H s) : sysModules < s.heap.objs.size := by
  have h : mainGlobals < s.heap.objs.size := (I.mod.glob.keeps I.bk).lt
  exact Nat.lt_trans (by decide) h
theorem d_getItem {Q : Value → Shared → Prop} (hu : A.units + 1 < cLine) (I : Inv X pins σ H s) (g : DGet H a y (some v)) (ry : RelV y u) (h : ∀ w' s', Inv X pins σ H s' → RelV v w' → Q w' s') :
    wpAny (model X.prog X.w) A (getItem (.ref a) u) Q E s := by
  rcases g with ⟨kvs, k, e, ey, l⟩ | ⟨kvs, k, b, e, ey, eb, l⟩
  · subst ey
    obtain ⟨z, hd, vs, rel, dd⟩ := dk_rd I.hok e
    obtain ⟨w', hw, rw'⟩ := RelO.some_of (v := v) (o := valueAt vs k) (by rw [l]; exact rel.val k)
    exact wpAny_getItem_of (kV_is ry) dd.mapOf hw (h w' _ (I.tok _) rw')
  · subst ey
    cases (show u = Value.ref b from ry)
    obtain ⟨z, hd, xs, rel, dd⟩ := dt_rd I.hok e
    obtain ⟨w', hw, rw'⟩ := RelO.some_of (v := v) (o := (atKey xs k).map (·.2)) (by rw [l]; exact rel.val k)
    obtain ⟨p, hp, hp2⟩ := Option.map_eq_some_iff.mp hw
    refine wpAny_getItem_heap (tupleKind_room_in1 hu) (key_of I.hok eb) dd hp ?_
    rw [hp2]
    exact h w' _ (I.tok _) rw'
theorem d_in {Q : Value → Shared → Prop} (hu : A.units + 1 < cLine) (I : Inv X pins σ H s) (g : DGet H a y o) (ry : RelV y u) (h : ∀ s', Inv X pins σ H s' → Q (.bool o.isSome) s') :
    wpAny (model X.prog X.w) A (compareOp .In u (.ref a)) Q E s := by
  rcases g with ⟨kvs, k, e, ey, l⟩ | ⟨kvs, k, b, e, ey, eb, l⟩
  · subst ey
    obtain ⟨z, hd, vs, rel, dd⟩ := dk_rd I.hok e
    refine wpAny_in_of (kV_is ry) hd dd.mapOf ?_
    rw [← (rel.val k).isSome_eq, ← l]
    exact h _ (I.tok _)
  · subst ey
    cases (show u = Value.ref b from ry)
    obtain ⟨z, hd, xs, rel, dd⟩ := dt_rd I.hok e
    refine wpAny_in_heap (tupleKind_room_in1 hu) (key_of I.hok eb) hd dd ?_
    have q := (rel.val k).isSome_eq
    rw [Option.isSome_map] at q
    rw [← q, ← l]
    exact h _ (I.tok _)
theorem d_notIn {Q : Value → Shared → Prop} (hu : A.units + 1 < cLine) (I : Inv X pins σ H s) (g : DGet H a y o) (ry : RelV y u) (h : ∀ s', Inv X pins σ H s' → Q (.bool (!o.isSome)) s') :
    wpAny (model X.prog X.w) A (compareOp .NotIn u (.ref a)) Q E s := by
  rcases g with ⟨kvs, k, e, ey, l⟩ | ⟨kvs, k, b, e, ey, eb, l⟩
  · subst ey
    obtain ⟨z, hd, vs, rel, dd⟩ := dk_rd I.hok e
    refine wpAny_notIn_of (kV_is ry) hd dd.mapOf ?_
    rw [← (rel.val k).isSome_eq, ← l]
    exact h _ (I.tok _)
  · subst ey
    cases (show u = Value.ref b from ry)
    obtain ⟨z, hd, xs, rel, dd⟩ := dt_rd I.hok e
    refine wpAny_notIn_heap (tupleKind_room_in1 hu) (key_of I.hok eb) hd dd ?_
    have q := (rel.val k).isSome_eq
    rw [Option.isSome_map] at q
    rw [← q, ← l]
    exact h _ (I.tok _)
theorem d_write {h' : Heap} {t' : Nat} {ob : HO} (I : Inv X pins σ H s) (mu : Mut (H a)) (hs : Heap.SameBut a s.heap h') (he : ∃ q, h'.get? a = some q) (new : ObjOk X.prog X.w (upd H a ob) h' a ob) :
    Inv X pins σ (upd H a ob) { s with heap := h', toks := t' } :=
  I.write (x := a) (e := a) mu (.inl rfl) (fun b q hb z => (hs.2 b hb).trans z) he new
theorem dk_new {P : Program} {w : World} {H' : Hp} {h' : Heap} {kvs : List (Key × V)} {vs : List (Key × Value)} (z : kvs.length ≤ sizeLine) (hd : (a == sysModules) = false) (rel : KV kvs vs) (dd : h'.DictOf (mixKind P w) a vs) :
    ObjOk P w H' h' a (.dK kvs) := ⟨z, hd, vs, rel, dd⟩
theorem d_setItem {H' : Hp} {Q : Unit → Shared → Prop} (hu : A.units + 1 < cLine) (I : Inv X pins σ H s) (g : DPut H a y v H') (ry : RelV y u) (rv : RelV v r) (h : ∀ s', Inv X pins σ H' s' → Q () s') :
    wpAny (model X.prog X.w) A (setItem (.ref a) u r) Q E s := by
  rcases g with ⟨kvs, k, e, ey, l, eH⟩ | ⟨kvs, k, b, e, ey, eb, l, eH⟩
  · subst ey eH
    obtain ⟨z, hd, vs, rel, dd⟩ := dk_of I.hok e
    have hz : vs.length ≤ sizeLine := by rw [← rel.length]; exact z
    have hl : (putK kvs k v).length ≤ sizeLine := by have := length_putK kvs k v; omega
    refine wpAny_setItem_pairs (hsz := hz) (kV_is ry) dd fun h' dd' hs => h _ ?_
    have he : ∃ q, h'.get? a = some q := let ⟨q, _, _, hq, _⟩ := dd'; ⟨q, hq⟩
    exact d_write I (by rw [e]; exact True.intro) hs he (dk_new hl hd (rel.put k rv) dd')
  · subst ey eH
    cases (show u = Value.ref b from ry)
    obtain ⟨z, hd, xs, rel, dd⟩ := dt_of I.hok e
    have hz : xs.length ≤ sizeLine := by rw [← Paired.length rel]; exact z
    have hl : (putK kvs k v).length ≤ sizeLine := by have := length_putK kvs k v; omega
    refine wpAny_setItem_heap (hsz := hz) (tupleKind_room_in1 hu) (key_of I.hok eb) dd fun h' dd' hs => h _ ?_
    obtain ⟨q, es, ep, hq, h2, h3, h4, _, h5⟩ := dd'
    refine d_write I (by rw [e]; exact True.intro) hs ⟨q, hq⟩ ⟨hl, hd, _, (rel.put k eb rv).keeps fun c ys ec => ?_, q, es, ep, hq, h2, h3, h4, h5⟩
    rw [upd_ne (ne_of ec e (fun z => nomatch z))]
    exact ec
end
theorem dict_typeIs {X : Cx} {pins : List (Addr × Obj)} {σ : St} {H : Hp} {s : Shared} {a : Addr} {y : V} {o : Option V} (I : Inv X pins σ H s) (g : DGet H a y o) : s.TypeIs (.ref a) "dict" := by
  rcases g with ⟨kvs, k, e, _, _⟩ | ⟨kvs, k, b, e, _, _, _⟩
  · obtain ⟨_, _, vs, _, dd⟩ := dk_rd I.hok e
    exact dd.typeIs
  · obtain ⟨_, _, xs, _, dd⟩ := dt_rd I.hok e
    exact dd.typeIs
theorem dt_empty {P : Program} {w : World} {H : Hp} (h : Heap) (hb : sysModules < h.objs.size) : ObjOk P w H (h.push { cls := .type "dict", data := .dict #[] }) h.objs.size (.dT []) :=
  ⟨Nat.zero_le _, beq_eq_false_iff_ne.mpr (Ne.symm (Nat.ne_of_lt hb)), [], .nil, _, #[], 0, Heap.get?_push_size _ rfl, ⟨rfl, rfl, rfl⟩, rfl, rfl, List.nodup_nil⟩
def tDNewT : TE := fun _ H Q => ∀ p, H p = none → Q (.ref p) (upd H p (.dT []))
section
variable {X : Cx} {pos : Pos}
theorem pe_dnewT : PE X (.Dict [] [] pos) tDNewT := fun pins s σ H Q I h =>
  wpAny_Dict_empty ⟨.ref s.heap.objs.size, _, I.laid (a := s.heap.objs.size) (o := .dT []) (t' := s.toks) (fun _ _ q => Heap.get?_push_of_some _ q) (Nat.le_refl _) (dt_empty s.heap I.big), rfl, h _ (I.hok.fresh (Nat.le_refl _))⟩
end
structure M2 (X : Cx) (o : Expr) (m : Str) (apos : Pos) (e f : Expr) (cpos : Pos) : Prop where
  base : attributeBase o m X.env (eval o X.env) = eval o X.env
  few : ((backTo cpos (starEach [e, f] X.env)).all (fun x => !x.1) && (backToKw cpos (keywordEach [] X.env)).all (fun x => x.1.isSome)
    && decide (([e, f] : List Expr).length + ([] : List Keyword).length + (if ([] : List Keyword).isEmpty then 0 else 1) < 30)) = true
  line : (apos.endLine == cpos.line) = true
  trees : backTo cpos (starEach [e, f] X.env) = [(false, eval e X.env), (false, eval f X.env)]
def IsD (H : Hp) (a : Addr) : Prop := (∃ kvs, Rd H a (.dK kvs)) ∨ ∃ kvs, Rd H a (.dT kvs)
theorem isD_at {X : Cx} {pins : List (Addr × Obj)} {σ : St} {H : Hp} {s : Shared} {a : Addr} (I : Inv X pins σ H s) (d : IsD H a) :
    s.TypeIs (.ref a) "dict" ∧ (∀ b, Value.ref a = .ref b → ∃ ob, s.heap.get? b = some ob ∧ ob.dict = none) ∧ (a == sysModules) = false := by
  rcases d with ⟨kvs, e⟩ | ⟨kvs, e⟩
  · obtain ⟨_, hd, vs, _, dd⟩ := dk_rd I.hok e
    refine ⟨dd.typeIs, fun b q => ?_, hd⟩
    cases q
    obtain ⟨ob, _, _, h1, h2, _⟩ := dd
    exact ⟨ob, h1, h2.2.1⟩
  · obtain ⟨_, hd, xs, _, dd⟩ := dt_rd I.hok e
    refine ⟨dd.typeIs, fun b q => ?_, hd⟩
    cases q
    obtain ⟨ob, _, _, h1, h2, _⟩ := dd
    exact ⟨ob, h1, h2.2.1⟩
section
variable {X : Cx} {pins : List (Addr × Obj)} {σ : St} {H : Hp} {s : Shared} {a : Addr} {y d : V} {u r : Value} {o : Option V} {A : Around} {E : Value → Shared → Prop}
theorem d_get2 {Q : Value → Shared → Prop} (hu : A.units + 1 < cLine) (I : Inv X pins σ H s) (g : DGet H a y o) (ry : RelV y u) (rd : RelV d r) (h : ∀ w' s', Inv X pins σ H s' → RelV (o.getD d) w' → Q w' s') :
    wpAny (model X.prog X.w) A (call (.builtin "dict.get") [.ref a, u, r]) Q E s := by
  rcases g with ⟨kvs, k, e, ey, l⟩ | ⟨kvs, k, b, e, ey, eb, l⟩
  · subst ey
    obtain ⟨z, hd, vs, rel, dd⟩ := dk_rd I.hok e
    refine call_meetsIn PySem.F.slot_dict_get dd.typeIs PySem.F.entry_dict_get (PySem.F.args_dict_get_3 _ _ _) (meets_dict_get_default (mixKind X.prog X.w) a (kV_is ry) hd r) ⟨_, dd.mapOf, h _ _ (I.tok _) ?_⟩
    rw [l]
    exact (rel.val k).getD rd
  · subst ey
    cases (show u = Value.ref b from ry)
    obtain ⟨z, hd, xs, rel, dd⟩ := dt_rd I.hok e
    refine call_meetsIn PySem.F.slot_dict_get dd.typeIs PySem.F.entry_dict_get (PySem.F.args_dict_get_3 _ _ _) (meetsH_dict_get_default (tupleKind (mixKind X.prog X.w)) a b hd r) ⟨tupleKind_room_in1 hu, k, xs, key_of I.hok eb, dd, h _ _ (I.tok _) ?_⟩
    rw [l]
    exact (rel.val k).getD rd
end
def tDGet2 (td ty tx : TE) : TE := fun σ H Q => td σ H fun x H1 => ∃ a, x = .ref a ∧ IsD H1 a ∧ ty σ H1 fun y H2 => tx σ H2 fun z H3 => ∃ o, DGet H3 a y o ∧ Q (o.getD z) H3
section
variable {X : Cx} {o e f : Expr} {apos cpos : Pos} {td ty tx : TE}
theorem pe_dget2 (hu : X.A.units + 1 < cLine) (ho : PE X o td) (he : PE X e ty) (hf : PE X f tx) (m : M2 X o "get" apos e f cpos) : PE X (.Call (.Attribute o "get" apos) [e, f] [] cpos) (tDGet2 td ty tx) := by
  intro pins s σ H Q I h
  refine wpAny_Call_method m.base m.few m.line PySem.F.plainAttrs_dict PySem.F.slot_dict_get PySem.F.type_dict_get (thn (ho pins s σ H _ I h) fun u s1 ⟨x, H1, I1, rx, a, ex, d, q1⟩ => ?_)
  subst ex
  obtain rfl : u = Value.ref a := rx
  obtain ⟨t1, t2, _⟩ := isD_at I1 d
  refine ⟨t1, t2, ?_⟩
  rw [m.trees]
  refine Calls.callWith_builtin rfl (Calls.evalArgs_plain (Calls.spliced_cons (thn (he pins s1 σ H1 _ I1 q1) fun iv s2 ⟨y, H2, I2, ry, q2⟩ =>
    Calls.spliced_cons (thn (hf pins s2 σ H2 _ I2 q2) fun fv s3 ⟨z, H3, I3, rz, ov, g, q3⟩ => Calls.spliced_nil ?_))))
  exact d_get2 hu I3 g ry rz fun w' s4 I4 rw' => ⟨_, H3, I4, rw', q3⟩
end
end L2
namespace L2
open PySem PySem.Spec PyProof.Rows
end L2
set_option Elab.async false
set_option linter.all false
set_option maxRecDepth 100000
namespace L2
open PySem PySem.Spec PyProof.Rows
section
variable {X : Cx}
def rIxD : R2 := fun x y H Q => ∃ a v, x = .ref a ∧ DGet H a y (some v) ∧ Q v H
theorem ix_dict (hu : X.A.units + 60 < cLine) : IxR X rIxD := by
  intro value slice pins s σ H x y v u Q I rx ry h hs
  obtain ⟨a, z, rfl, g, q⟩ := h
  cases rx
  exact tail_any (ops := [.ref a, u]) (dict_typeIs I g) PySem.F.slot_dict_getitem.lookup (d_getItem (by omega) I g ry fun w' s3 I3 rw' => ⟨z, H, I3, rw', q⟩) hs
def rInDict (neg : Bool) : R2 := fun y x H Q => ∃ a o, x = .ref a ∧ DGet H a y o ∧ Q (.bl (if neg then !o.isSome else o.isSome)) H
theorem op_inDict (hu : X.A.units + 60 < cLine) : OpR X (compareOp .In) (rInDict false) := by
  intro pins s σ H y x u v Q I ry rx h
  obtain ⟨a, o, rfl, g, q⟩ := h
  cases rx
  exact d_in (by omega) I g ry fun s3 I3 => ⟨.bl o.isSome, H, I3, rfl, q⟩
theorem op_notInDict (hu : X.A.units + 60 < cLine) : OpR X (compareOp .NotIn) (rInDict true) := by
  intro pins s σ H y x u v Q I ry rx h
  obtain ⟨a, o, rfl, g, q⟩ := h
  cases rx
  exact d_notIn (by omega) I g ry fun s3 I3 => ⟨.bl (!o.isSome), H, I3, rfl, q⟩
def rSetD : V → V → V → Hp → (Hp → Prop) → Prop := fun o i v H Q => ∃ a H', o = .ref a ∧ DPut H a i v H' ∧ Q H'
theorem set_dict (hu : X.A.units + 60 < cLine) : PSet X rSetD := by
  intro pins s σ H o i v ov iv u Q I ro ri rv h
  obtain ⟨a, H', rfl, g, q⟩ := h
  cases ro
  exact d_setItem (by omega) I g ri rv fun s4 I4 => ⟨H', I4, q⟩
end
end L2
set_option Elab.async false
set_option linter.all false
set_option maxRecDepth 100000
namespace L2
open PySem PySem.Spec PyProof.Rows
section
variable {X : Cx} {pos : Pos} {k v : Expr} {tk tv : TE}
theorem r_dnewT : RE X (.Dict [] [] pos) tDNewT := ⟨pe_dnewT⟩
end
end L2
set_option Elab.async false
set_option linter.all false
set_option maxRecDepth 100000
namespace L2
open PySem PySem.Spec PyProof.Rows PySem.SeqAt PySem.MeetsSeq PySem.MeetsSeq2 PySem.MeetsSeq3
open PySem.AutoSeq1 (wpAny_loadPart')
end L2
set_option Elab.async false
set_option linter.all false
set_option maxRecDepth 100000
namespace L2
open PySem PySem.Spec PyProof.Rows
structure Mth (P : Program) (w : World) (K : PySem.W.Frag) (mg : Str → Option Value) (base : Heap) (k : Nat) (C : Addr) (m : Str) (ps : List Str) (sp : Sp) : Prop where
  ex : ∃ f fd, Meth K C m f ∧ FnOk P w K mg base (CXE P w) k f fd ps sp ∧ Binds K fd ps []
  cl : Cls K C
section
variable {X : Cx} {k j : Nat} {ps : List Str} {sp : Sp} {E : XK} {m : Str} {pos apos : Pos} {o e : Expr} {es : List Expr} {ta : TE} {t : TA} {C : Addr}
theorem meth_eq {env : Env} {args : List Expr} (hbase : attributeBase o m env (eval o env) = eval o env) (hs : args.all notStar = true) (hlen : decide (args.length < 30) = true) (hline : (apos.endLine == pos.line) = true) :
    eval (.Call (.Attribute o m apos) args [] pos) env = (do
      let v ← eval o env
      standAt apos.atName
      let (g, before) ← holding [v] (getMethod v m (do return (← importBound o env).getD true))
      callWith pos g before (backTo pos (starEach args env)) (backToKw pos (keywordEach [] env))) := by
  have form : methodCallForm (args.length + ([] : List Keyword).length) (backTo pos (starEach args env)) (backToKw pos (keywordEach [] env)) = true := by
    unfold methodCallForm
    rw [few_of hs]
    have : decide (args.length + ([] : List Keyword).length + (if (backToKw pos (keywordEach [] env)).isEmpty then 0 else 1) < 30) = true := by
      have := of_decide_eq_true hlen
      exact decide_eq_true (by show args.length + 0 + 0 < 30; omega)
    rw [this]; rfl
  rw [arm_eval_Call, hbase]
  unfold methodCall calleeOf methodCallPos
  rw [form]
  simp only [hline, if_true, Bool.or_true, pure_bind]
theorem r_meth0 (D : Mth X.prog X.w X.K X.mg X.base k C m ps sp) (hr : Room j X.A) (hx : Passes (CXE X.prog X.w) X E) (ho : RE X o ta) (hk : k ≤ j := by decide)
    (hbase : attributeBase o m X.env (eval o X.env) = eval o X.env := by rfl) (hline : (apos.endLine == pos.line) = true := by rfl) : RE X (.Call (.Attribute o m apos) [] [] pos) (tMeth C m sp [] E ta tNil) := by
  obtain ⟨f, fd, M, F, hb⟩ := D.ex
  exact ⟨pe_meth0 ho.ok D.cl M F (hr.mono hk) hb .nil hx (ht := meth_eq hbase rfl rfl hline)⟩
theorem r_meth (D : Mth X.prog X.w X.K X.mg X.base k C m ps sp) (hr : Room j X.A) (hx : Passes (CXE X.prog X.w) X E) (ho : RE X o ta) (ha : RA X (e :: es) t) (hk : k ≤ j := by decide) (h1 : (e :: es).all notStar = true := by rfl)
    (hbase : attributeBase o m X.env (eval o X.env) = eval o X.env := by rfl) (hlen : decide ((e :: es).length < 30) = true := by rfl) (hline : (apos.endLine == pos.line) = true := by rfl) :
    RE X (.Call (.Attribute o m apos) (e :: es) [] pos) (tMeth C m sp [] E ta t) := by
  obtain ⟨f, fd, M, F, hb⟩ := D.ex
  have h1' := h1
  rw [List.all_cons, Bool.and_eq_true] at h1'
  exact ⟨pe_meth ho.ok D.cl M F (hr.mono hk) hb .nil hx ha.ok (hst := st_of h1'.1) (hpl := np_of h1'.2) (ht := meth_eq hbase h1 hlen hline)⟩
variable {f : Expr} {td ty tx : TE}
theorem r_dget2 (hu : X.A.units + 60 < cLine) (ho : RE X o td) (he : RE X e ty) (hf : RE X f tx) (m : M2 X o "get" apos e f pos) : RE X (.Call (.Attribute o "get" apos) [e, f] [] pos) (tDGet2 td ty tx) := ⟨pe_dget2 (by omega) ho.ok he.ok hf.ok m⟩
end
section
variable {P : Program} {w : World}
theorem lenT_meets {κ : Type} [DecidableEq κ] (knd : HeapKind P w κ) (d : Addr) (lo : (d == sysModules) = false) :
    MeetsIn P w (Builtin.«dict.__len__» ⟨[.ref d], []⟩) (fun _ R s => ∃ xs, s.heap.DictOfH knd d xs ∧ ∀ t t', R (.ok (.ret (.int xs.length t))) { s with toks := t' }) :=
  .of_wp fun A R s hyp => by
    obtain ⟨xs, dd, q⟩ := hyp
    obtain ⟨ob, en, ep, g1, g2, g3, g4, g5⟩ := dd
    have n : en.size = xs.length := size_of_entries g4
    show wpAny _ _ (dictSize d >>= _) _ _ s
    unfold dictSize
    refine wpAny_bind (wpAny_bind (wpAny_dictEntries g1 g3 (wpAny_pure ?_)))
    show wpAny _ _ (Builtin.Dict.pendingCount d >>= _) _ _ s
    refine wpAny_bind (wpAny_pendingCount_other lo (wpAny_ret_mkInt ?_))
    rw [Nat.add_zero, n]
    exact q _ _
end
section
variable {X : Cx}
def rLenT : List V → Hp → VK → Prop := fun xs H Q => ∃ a kvs, xs = [.ref a] ∧ H a = some (.dT kvs) ∧ Q (.int kvs.length) H
theorem call_lenT : CallR X (.builtin "len") rLenT := by
  intro pins s σ H xs us Q I r h
  obtain ⟨a, kvs, rfl, e, q⟩ := h
  obtain ⟨u, rfl, ru⟩ := vals1 r
  cases ru
  obtain ⟨z, lo, ws, rel, dd⟩ := dt_of I.hok e
  have n : ws.length = kvs.length := (Paired.length rel).symm
  have small' : ((kvs.length : Nat) : Int) < 2 ^ 63 := by rw [sizeLine_eq] at z; omega
  refine Calls.call_function_entry kind_len plain_len entry_len (args_len1 _) ?_
  unfold Builtin.«len»
  refine wpAny_bind (m := oneArg "len" _) (wpAny_pure (wpAny_bind (m := callSpecial? (.ref a) (Str.ofString "__len__")) ?_))
  refine wpAny_callSpecial?_slot (name := Str.ofString "__len__") dd.typeIs PySem.F.slot_dict_len (call_meetsIn PySem.F.slot_dict_len dd.typeIs PySem.F.entry_dict_len (PySem.F.args_dict_len_1 _) (lenT_meets _ a lo) ⟨ws, dd, fun t t' => ?_⟩)
  rw [n]
  refine wpAny_bind (wpAny_holding (wpAny_pure (wpAny_bind (wpAny_letGo ?_))))
  show wpAny _ _ (if ((kvs.length : Nat) : Int) < 0 then _ else _) _ _ _
  rw [if_neg (by omega)]
  show wpAny _ _ (if ((kvs.length : Nat) : Int) ≥ 2 ^ 63 then _ else _) _ _ _
  rw [if_neg (by omega)]
  exact wpAny_bind (wpAny_mkInt (wpAny_pure ⟨_, rfl, .int kvs.length, H, I.tok _, ⟨_, rfl⟩, q⟩))
def rStrG : List V → Hp → VK → Prop := fun xs H Q => (∃ i : Int, xs = [.int i] ∧ i.natAbs.log2 < 1920 ∧ Q (.str (toString i)) H) ∨ ∃ z : Str, xs = [.str z] ∧ Q (.str z) H
theorem call_strG : CallR X (.type "str") rStrG := by
  intro pins s σ H xs us Q I r h
  rcases h with h | ⟨z, rfl, q⟩
  · exact call_str_int pins s σ H xs us Q I r h
  · obtain ⟨u, rfl, t, rfl⟩ := vals1 r
    exact PySem.P.str_of_str ⟨.str _, H, I, ⟨_, rfl⟩, q⟩
def rLenE (K : PySem.W.Frag) : List V → Hp → VK → Prop := fun xs H Q => rLenG K xs H Q ∨ rLenT xs H Q
theorem k_lenE {K : PySem.W.Frag} (hK : X.K = K := by rfl) : CallR X (.builtin "len") (rLenE K) := by subst hK; exact CallR.or k_len call_lenT
end
def Tups (H H' : Hp) : Prop := ∀ b xs, H b = some (.tup xs) → H' b = some (.tup xs)
theorem Same.tups {H H' : Hp} (s : Same H H') : Tups H H' := fun b xs e => s b _ e
theorem Tups.refl (H : Hp) : Tups H H := fun _ _ e => e
theorem Tups.trans {H H1 H2 : Hp} (a : Tups H H1) (b : Tups H1 H2) : Tups H H2 := fun c xs e => b c xs (a c xs e)
theorem Tups.put {H : Hp} {x : Addr} {o u : HO} (hx : H x = some o) (no : ∀ xs, o ≠ .tup xs) : Tups H (upd H x u) := fun b xs e => by
  rw [upd_ne (fun z => by rw [z, hx] at e; exact no xs (Option.some.inj e))]; exact e
section
variable {K : PySem.W.Frag} {H H' : Hp}
theorem Tups.cell {v : V} {x : Cell} (s : Tups H H') (h : Den K H v (cellD x)) : Den K H' v (cellD x) := by
  obtain ⟨a, rfl, _, ht⟩ := cell_ref h
  exact .tup (s _ _ ht) (.cons (.int _) (.cons (.int _) .nil))
theorem Tups.cells (s : Tups H H') : ∀ {vs : List V} {cs : List Cell}, Dens K H vs (cs.map cellD) → Dens K H' vs (cs.map cellD)
  | [], [], _ => .nil
  | v :: vs, c :: cs, .cons h t => .cons (s.cell h) (s.cells t)
end
def keyC (c : Cell) : List Key := [.inl c.1, .inl c.2]
def fGame (f h d : Addr) (b : Bool) : List (Str × V) := putF "lost" (.bl b) (putF "figures" (.ref d) (putF "hidden" (.ref h) (putF "field" (.ref f) [])))
theorem g_lost (f h d : Addr) (b : Bool) : (fGame f h d b).lookup ("lost" : Str) = some (.bl b) := by
  unfold fGame; rw [lookup_putF, if_pos rfl]
theorem g_figures (f h d : Addr) (b : Bool) : (fGame f h d b).lookup ("figures" : Str) = some (.ref d) := by
  unfold fGame; rw [lookup_putF, if_neg (by decide +kernel), lookup_putF, if_pos rfl]
theorem g_hidden (f h d : Addr) (b : Bool) : (fGame f h d b).lookup ("hidden" : Str) = some (.ref h) := by
  unfold fGame; rw [lookup_putF, if_neg (by decide +kernel), lookup_putF, if_neg (by decide +kernel), lookup_putF, if_pos rfl]
theorem g_field (f h d : Addr) (b : Bool) : (fGame f h d b).lookup ("field" : Str) = some (.ref f) := by
  unfold fGame; rw [lookup_putF, if_neg (by decide +kernel), lookup_putF, if_neg (by decide +kernel), lookup_putF, if_neg (by decide +kernel), lookup_putF, if_pos rfl]
theorem g_none (f h d : Addr) (b : Bool) {m : Str} (h1 : m ≠ "lost") (h2 : m ≠ "figures") (h3 : m ≠ "hidden") (h4 : m ≠ "field") : (fGame f h d b).lookup m = none := by
  unfold fGame; rw [lookup_putF, if_neg h1, lookup_putF, if_neg h2, lookup_putF, if_neg h3, lookup_putF, if_neg h4]; rfl
def figsL (h w : Int) (st kn : List Cell) : List (List Key × V) := kn.map fun c => (keyC c, V.int (figN h w st c))
theorem keyC_inj {a b : Cell} (e : keyC a = keyC b) : a = b := by
  unfold keyC at e
  injection e with e1 e2
  injection e2 with e2 _
  injection e1 with e1
  injection e2 with e2
  exact Prod.ext e1 e2
theorem figs_val (h w : Int) (st : List Cell) (c : Cell) : ∀ kn : List Cell, valV (figsL h w st kn) (keyC c) = if c ∈ kn then some (.int (figN h w st c)) else none
  | [] => rfl
  | a :: kn => by
    show valV ((keyC a, V.int (figN h w st a)) :: figsL h w st kn) (keyC c) = _
    by_cases e : a = c
    · subst e
      rw [valV_pos rfl, if_pos List.mem_cons_self]
    · rw [valV_neg (fun z => e (keyC_inj z)), figs_val h w st c kn]
      by_cases m : c ∈ kn
      · rw [if_pos m, if_pos (List.mem_cons_of_mem _ m)]
      · rw [if_neg m, if_neg (fun z => (List.mem_cons.mp z).elim (fun q => e q.symm) m)]
def blankL (h w : Nat) : List Str := shownL h w [] []
theorem code_shown {h w : Nat} {st kn : List Cell} {r c : Nat} (hr : r < h) (hc : c < w) : codeAt (shownL h w st kn) (r, c) = sgnN h w st kn ((r : Int), (c : Int)) := by
  unfold codeAt shownL
  have e : (((List.range h).map fun r : Nat => rowN h w st kn (r : Int) w).getD r Str.empty) = rowN h w st kn (r : Int) w := by
    rw [List.getD_eq_getElem?_getD, List.getElem?_map, List.getElem?_range hr]; rfl
  show (((List.range h).map fun r : Nat => rowN h w st kn (r : Int) w).getD r Str.empty).cps.getD c 0 = _
  rw [e]
  unfold rowN
  simp [Array.getD, hc]
theorem closed_shown {h w : Nat} {st kn : List Cell} {x : Cell} : closedB (shownL h w st kn) w x = (decide (inF h w x) && !decide (x ∈ kn)) := by
  have ll : (shownL h w st kn).length = h := by unfold shownL; rw [List.length_map, List.length_range]
  unfold closedB
  rw [ll]
  by_cases hi : inF h w x
  · obtain ⟨⟨a1, a2⟩, a3, a4⟩ := id hi
    have e1 : x = (((x.1.toNat : Nat) : Int), ((x.2.toNat : Nat) : Int)) := Prod.ext (by show x.1 = _; omega) (by show x.2 = _; omega)
    rw [decide_eq_true hi, Bool.true_and, Bool.true_and, code_shown (by omega) (by omega), ← e1]
    unfold sgnN
    by_cases hk : x ∈ kn
    · rw [if_pos hk, decide_eq_true hk]
      exact decide_eq_false (by omega)
    · rw [if_neg hk, decide_eq_false hk]; rfl
  · rw [decide_eq_false hi, Bool.false_and, Bool.false_and]
structure GameAt (K : PySem.W.Frag) (C CV : Addr) (H : Hp) (g : Addr) (h w : Nat) (st kn : List Cell) (lost : Bool) (f hd d : Addr) : Prop where
  ob : ∃ dx, H g = some (.ins C dx (fGame f hd d lost))
  fl : ViewAt CV H f (blankL h w) w
  hs : Ls K H hd (st.map cellD)
  dc : H d = some (.dT (figsL h w st kn))
theorem GameAt.mono {K : PySem.W.Frag} {C CV : Addr} {H H' : Hp} {g : Addr} {h w : Nat} {st kn : List Cell} {lost : Bool} {f hd d : Addr} (G : GameAt K C CV H g h w st kn lost f hd d) (s : Same H H') : GameAt K C CV H' g h w st kn lost f hd d :=
  ⟨let ⟨dx, e⟩ := G.ob; ⟨dx, s _ _ e⟩, G.fl.mono s, G.hs.mono s, s _ _ G.dc⟩
end L2
set_option Elab.async false
set_option linter.all false
set_option maxRecDepth 100000
namespace L2
open PySem PySem.Spec PyProof.Rows
end L2
set_option Elab.async false
set_option linter.all false
set_option maxRecDepth 100000
namespace L2
open PySem PySem.Spec PyProof.Rows PySem.SeqAt PySem.MeetsSeq PySem.MeetsSeq2 PySem.MeetsSeq3
open PySem.AutoSeq1 (wpAny_loadPart')
section
variable {P : Program} {w : World} {A : Around} {E : Value → Shared → Prop} {s : Shared}
def KIt (I d : Addr) (es : Array DictEntry) (ep i : Nat) (h : Heap) : Prop :=
  (∃ z1, h.get? I = some { cls := .type "dict_keyiterator", dict := none, data := .fields #[.ref d, .int i 0, .int es.size 0, .int ep 0], slots := z1 }) ∧ h.get? d = some { cls := .type "dict", dict := none, data := .dict es ep, slots := #[] }
theorem KIt.ty {I d : Addr} {es : Array DictEntry} {ep i : Nat} (k : KIt I d es ep i s.heap) : s.TypeIs (.ref I) "dict_keyiterator" := let ⟨_, e⟩ := k.1; ⟨_, e, rfl⟩
end
open PySem.W
end L2
set_option Elab.async false
set_option linter.all false
set_option maxRecDepth 100000
namespace L2
open PySem PySem.Spec PyProof.Rows
end L2
set_option Elab.async false
set_option linter.all false
set_option maxRecDepth 100000
namespace L2
open PySem
def Ris (xs : Array Nat) : Prop := xs.toList.Pairwise (· < ·)
theorem Ris.lt {xs : Array Nat} (r : Ris xs) {i j : Nat} (hij : i < j) (hj : j < xs.size) : xs[i]'(by omega) < xs[j] := by
  have := List.pairwise_iff_getElem.mp r i j (by rw [Array.length_toList]; omega) (by rw [Array.length_toList]; omega) hij
  simpa using this
theorem Ris.le {xs : Array Nat} (r : Ris xs) {i j : Nat} (hij : i ≤ j) (hj : j < xs.size) : xs[i]'(by omega) ≤ xs[j] := by
  rcases Nat.lt_or_eq_of_le hij with h | h
  · exact Nat.le_of_lt (r.lt h hj)
  · subst h; exact Nat.le_refl _
structure Cut (xs : Array Nat) (j b : Nat) : Prop where
  le : b ≤ xs.size
  lo : ∀ k, (hk : k < xs.size) → k < b → xs[k] < j
  hi : ∀ k, (hk : k < xs.size) → b ≤ k → j ≤ xs[k]
theorem below_go {xs : Array Nat} (r : Ris xs) (j : Nat) : ∀ (fuel lo hi : Nat), hi ≤ xs.size → lo ≤ hi → hi - lo ≤ fuel → (∀ k, (hk : k < xs.size) → k < lo → xs[k] < j) → (∀ k, (hk : k < xs.size) → hi ≤ k → j ≤ xs[k]) → Cut xs j (SetTable.below.go xs j fuel lo hi)
  | 0, lo, hi, h1, h2, h3, a, b => by
    have e : lo = hi := by omega
    subst e
    exact ⟨h1, a, b⟩
  | fuel + 1, lo, hi, h1, h2, h3, a, b => by
    unfold SetTable.below.go
    by_cases h : lo < hi
    · rw [if_pos h]
      have hm : (lo + hi) / 2 < xs.size := by omega
      have eg : xs.getD ((lo + hi) / 2) j = xs[(lo + hi) / 2] := by simp [Array.getD, hm]
      dsimp only
      rw [eg]
      by_cases hv : xs[(lo + hi) / 2] < j
      · rw [if_pos hv]
        exact below_go r j fuel _ hi h1 (by omega) (by omega) (fun k hk hl => Nat.lt_of_le_of_lt (r.le (by omega) hm) hv) b
      · rw [if_neg hv]
        exact below_go r j fuel lo _ (by omega) (by omega) (by omega) a (fun k hk hl => Nat.le_trans (Nat.not_lt.mp hv) (r.le hl hk))
    · rw [if_neg h]
      have e : lo = hi := by omega
      subst e
      exact ⟨h1, a, b⟩
theorem cut_below {xs : Array Nat} (r : Ris xs) (j : Nat) : Cut xs j (SetTable.below xs j) :=
  below_go r j _ _ _ (Nat.le_refl _) (Nat.zero_le _) (by omega) (fun _ _ h => absurd h (Nat.not_lt_zero _)) (fun k hk h => absurd hk (Nat.not_lt.mpr h))
structure Tab (b : Bool) (t : SetTable) : Prop where
  led : t.led = b
  ris : Ris t.place
  dum : t.dummies = #[]
theorem Tab.fresh (f m : Nat) (b : Bool) : Tab b (SetTable.fresh f m b) := ⟨rfl, List.Pairwise.nil, rfl⟩
theorem has_none (j : Nat) : SetTable.has #[] j = false := by
  unfold SetTable.has
  simp
theorem ris_insert {xs : Array Nat} (r : Ris xs) {j : Nat} (h : xs[SetTable.below xs j]? ≠ some j) : Ris (SetTable.insertAt xs (SetTable.below xs j) j) := by
  have c := cut_below r j
  generalize SetTable.below xs j = b at c h
  unfold Ris
  rw [SetTable.toList_insertAt]
  have e : xs.toList = xs.toList.take b ++ xs.toList.drop b := (List.take_append_drop b xs.toList).symm
  have r' := r
  unfold Ris at r'
  rw [e] at r'
  obtain ⟨p1, p2, p3⟩ := List.pairwise_append.mp r'
  have lo : ∀ a ∈ xs.toList.take b, a < j := fun a ha => by
    obtain ⟨k, hk, e⟩ := List.getElem_of_mem ha
    rw [List.length_take, Array.length_toList] at hk
    rw [List.getElem_take] at e
    have := c.lo k (by omega) (by omega)
    rw [← e]; simpa using this
  have hi : ∀ a ∈ xs.toList.drop b, j < a := fun a ha => by
    obtain ⟨k, hk, e⟩ := List.getElem_of_mem ha
    rw [List.length_drop, Array.length_toList] at hk
    rw [List.getElem_drop] at e
    have hk' : b + k < xs.size := by omega
    have h1 := c.hi (b + k) hk' (by omega)
    have e' : xs[b + k] = a := by simpa using e
    rw [e'] at h1
    rcases Nat.lt_or_eq_of_le h1 with z | z
    · exact z
    · exfalso
      by_cases hz : k = 0
      · subst hz
        refine h ?_
        rw [Array.getElem?_eq_getElem (by omega)]
        congr 1
        simpa [z] using e'
      · have hb : b < xs.size := by omega
        have := r.lt (i := b) (j := b + k) (by omega) hk'
        have := c.hi b hb (Nat.le_refl _)
        omega
  refine List.pairwise_append.mpr ⟨p1, List.pairwise_cons.mpr ⟨hi, p2⟩, fun a ha c' hc => ?_⟩
  rcases List.mem_cons.mp hc with z | z
  · rw [z]; exact lo a ha
  · exact p3 a ha c' z
theorem slot_none {t : SetTable} (hd : t.dummies = #[]) (j : Nat) : t.slot j ≠ .dummy ∧ (t.slot j = .empty → t.place[SetTable.below t.place j]? ≠ some j) := by
  unfold SetTable.slot
  dsimp only
  rw [hd, has_none]
  by_cases h : (t.place[SetTable.below t.place j]? == some j) = true
  · rw [if_pos h]
    exact ⟨(by intro z; cases z), (by intro z; cases z)⟩
  · rw [if_neg h]
    refine ⟨by simp, fun _ z => h (by rw [z]; simp)⟩
theorem probe_empty {t : SetTable} (hd : t.dummies = #[]) (f : Nat → Int) (h : Int) : ∀ (fuel : Nat) (p : SetTable.Probe) (j : Nat) (d : Option Nat), p.dummy = none → SetTable.probe.go t f h fuel p = some (.empty j d) → d = none ∧ t.slot j = .empty
  | 0, p, j, d, _, e => by cases e
  | fuel + 1, p, j, d, hp, e => by
    unfold SetTable.probe.go at e
    have adv : (t.advance p).dummy = none := by
      unfold SetTable.advance
      split
      · exact hp
      · exact hp
    split at e
    · rename_i q
      have e := Option.some.inj e
      injection e with e1 e2
      subst e1 e2
      exact ⟨hp, q⟩
    · rename_i q
      exact absurd q (slot_none hd _).1
    · split at e
      · cases e
      · exact probe_empty hd f h fuel _ j d adv e
end L2
set_option Elab.async false
set_option linter.all false
set_option maxRecDepth 100000
namespace L2
open PySem PySem.Spec PyProof.Rows
abbrev setObj (es : Array (Int × Value)) (ep : Nat) (t : SetTable) : Obj := { cls := .type "set", dict := none, data := .set es ep t, slots := #[] }
def numE : Int × Value → Int
  | (_, .int n _) => n
  | _ => 0
def IntE (e : Int × Value) : Prop := ∃ d t, e = (hashInt d, .int d t)
structure SetW (b : Bool) (es : Array (Int × Value)) (t : SetTable) (ds : List Int) : Prop where
  tab : Tab b t
  fit : t.fits es.size = true
  els : ∀ e ∈ es.toList, IntE e
  ids : es.toList.map numE = ds
  nd : ds.Nodup
  sm : ds.length < 4000
def SetA (b : Bool) (h : Heap) (a : Addr) (ds : List Int) : Prop := ∃ es ep t, h.get? a = some (setObj es ep t) ∧ SetW b es t ds
section
variable {P : Program} {w : World} {A : Around} {E : Value → Shared → Prop} {s : Shared} {b : Bool} {a : Addr} {ds : List Int}
theorem SetW.len {es : Array (Int × Value)} {t : SetTable} (x : SetW b es t ds) : es.size = ds.length := by
  rw [← x.ids, List.length_map, Array.length_toList]
theorem SetW.mem {es : Array (Int × Value)} {t : SetTable} (x : SetW b es t ds) (d : Int) : d ∈ ds ↔ ∃ e ∈ es.toList, (intKind P w).is d e.2 = true := by
  rw [← x.ids]
  constructor
  · intro h
    obtain ⟨e, he, q⟩ := List.mem_map.mp h
    obtain ⟨d', t, rfl⟩ := x.els e he
    have q : d' = d := q
    exact ⟨_, he, by subst q; simp [intKind, Value.isInt]⟩
  · rintro ⟨e, he, q⟩
    obtain ⟨d', t, rfl⟩ := x.els e he
    refine List.mem_map.mpr ⟨_, he, ?_⟩
    have q : Value.isInt d (.int d' t) = true := q
    obtain ⟨t', e'⟩ := Value.isInt_shape q
    injection e'
theorem SetA.kept {h h' : Heap} (S : SetA b h a ds) (k : ∀ o, h.get? a = some o → h'.get? a = some o) : SetA b h' a ds := let ⟨es, ep, t, e, x⟩ := S; ⟨es, ep, t, k _ e, x⟩
theorem SetA.put {es es' : Array (Int × Value)} {ep : Nat} {t t' : SetTable} {h : Heap} {ds' : List Int} (e : h.get? a = some (setObj es ep t)) (x : SetW b es' t' ds') : (h.update a (Obj.putSet es' t')).get? a = some (setObj es' (ep + 1) t') ∧ SetA b (h.update a (Obj.putSet es' t')) a ds' := by
  have g : (h.update a (Obj.putSet es' t')).get? a = some (setObj es' (ep + 1) t') := Heap.get?_update_self (Obj.putSet es' t') e rfl
  exact ⟨g, es', ep + 1, t', g, x⟩
end
end L2
set_option Elab.async false
set_option linter.all false
set_option maxRecDepth 100000
namespace L2
open PySem PySem.Spec PyProof.Rows
section
variable {P : Program} {w : World} {A : Around} {E : Value → Shared → Prop} {s : Shared}
abbrev newSetO (b : Bool) : Obj := setObj #[] 0 (.fresh 0 0 b)
theorem set_new (x : Value) {Q : Value → Shared → Prop} (h : Q (.ref s.heap.objs.size) { s with heap := s.heap.push (newSetO (!w.params.followText "set-order")) }) :
    codeAny (model P w) A (.call (.builtin "set.__new__") ⟨[.type "set", x], []⟩) (wants Q E) s := by
  refine codeAny_of_tree (show wpAny _ A.in1 (do checkBuiltinCall "set.__new__" ⟨[.type "set", x], []⟩; again (.builtin "set.__new__" ⟨[.type "set", x], []⟩)) _ _ s from ?_)
  refine wpAny_bind (wpAny_of_eq (PySem.F.newCall_set_1 x) (wpAny_pure ⟨plainId_quiet PySem.F.plain_set_new _, codeAny_builtin PySem.F.entry_set_new ?_⟩))
  rw [Around.under_plainId PySem.F.plain_set_new _]; unfold Builtin.«set.__new__» Builtin.Frozenset.newClass
  have sub := sub_set_self; obtain ⟨hp, g, d, tk, os⟩ := s; dsimp only
  wp_walk
  refine wpAny_askSetting (wpAny_pure ?_); dsimp only; simp only [newObj]
  exact wpAny_bind (wpAny_alloc (wpAny_pure (wpAny_pure h)))
end
end L2
set_option Elab.async false
set_option linter.all false
set_option maxRecDepth 100000
namespace L2
open PySem PySem.Spec PyProof.Rows PySem.SeqAt PySem.MeetsSeq PySem.MeetsSeq2 PySem.MeetsSeq3
open PySem.AutoSeq1 (wpAny_loadPart')
namespace SF
end SF
section
variable {P : Program} {w : World} {A : Around} {E : Value → Shared → Prop} {s : Shared}
abbrev sitObj (first : Value) (i : Nat) (a : Addr) (n ep : Nat) (z : Array (Option Value)) : Obj := { cls := .type "set_iterator", dict := none, data := .fields #[first, .int i 0, .ref a, .int n 0, .int ep 0], slots := z }
end
end L2
set_option Elab.async false
set_option linter.all false
set_option maxRecDepth 100000
namespace L2
open PySem PySem.Spec PyProof.Rows PySem.SeqAt PySem.MeetsSeq PySem.MeetsSeq2 PySem.MeetsSeq3
open PySem.AutoSeq1 (wpAny_loadPart')
section
variable {P : Program} {w : World} {A : Around} {E : Value → Shared → Prop} {s : Shared}
inductive SitAt (w : World) (I a : Addr) (T : Option Addr) (es : Array (Int × Value)) (ep : Nat) (t : SetTable) (L : List (Int × Value)) (i : Nat) (h : Heap) : Prop
  | text (slot : Nat) (z : Array (Option Value)) (hb : w.params.followText "set-order" = true) (hT : T = none) (hL : L = (pickOrder (w.params.setOrder a ep) es).toList) (e1 : h.get? I = some (sitObj (.int slot 0) i a es.size ep z)) (e2 : h.get? a = some (setObj es ep t))
  | place (slot : Nat) (z : Array (Option Value)) (hb : w.params.followText "set-order" = false) (hT : T = none) (hL : L = es.toList) (hd : (!t.plain && decide (es.size > 1)) = false) (hs : SetTable.below t.place slot = i) (e1 : h.get? I = some (sitObj (.int slot 0) i a es.size ep z)) (e2 : h.get? a = some (setObj es ep t))
  | drawn (tp : Addr) (ps : List Nat) (z : Array (Option Value)) (hT : T = some tp) (hp : ps.length = es.size) (hL : ∀ (j pl : Nat), ps[j]? = some pl → L[j]? = es[pl]?) (e1 : h.get? I = some (sitObj (.ref tp) i a es.size ep z)) (e2 : h.get? a = some (setObj es ep t)) (e3 : h.get? tp = some { cls := .type "tuple", data := .seq (ps.map fun (k : Nat) => rawInt k).toArray })
def fpS (I a : Addr) : Option Addr → List Addr
  | none => [I, a]
  | some tp => [I, a, tp]
theorem SitAt.ty {I a : Addr} {T : Option Addr} {es : Array (Int × Value)} {ep i : Nat} {t : SetTable} {L : List (Int × Value)} (k : SitAt w I a T es ep t L i s.heap) : s.TypeIs (.ref I) "set_iterator" := by
  cases k with
  | text _ _ _ _ _ e1 _ => exact ⟨_, e1, rfl⟩
  | place _ _ _ _ _ _ _ e1 _ => exact ⟨_, e1, rfl⟩
  | drawn _ _ _ _ _ _ e1 _ _ => exact ⟨_, e1, rfl⟩
theorem SitAt.frame {I a : Addr} {T : Option Addr} {es : Array (Int × Value)} {ep i : Nat} {t : SetTable} {L : List (Int × Value)} {h h' : Heap} (k : SitAt w I a T es ep t L i h) (hk : ∀ b ∈ fpS I a T, ∀ o, h.get? b = some o → h'.get? b = some o) : SitAt w I a T es ep t L i h' := by
  cases k with
  | text slot z hb hT hL e1 e2 => subst hT; exact .text slot z hb rfl hL (hk I (by simp [fpS]) _ e1) (hk a (by simp [fpS]) _ e2)
  | place slot z hb hT hL hd hs e1 e2 => subst hT; exact .place slot z hb rfl hL hd hs (hk I (by simp [fpS]) _ e1) (hk a (by simp [fpS]) _ e2)
  | drawn tp ps z hT hp hL e1 e2 e3 => subst hT; exact .drawn tp ps z rfl hp hL (hk I (by simp [fpS]) _ e1) (hk a (by simp [fpS]) _ e2) (hk tp (by simp [fpS]) _ e3)
end
end L2
set_option Elab.async false
set_option linter.all false
set_option maxRecDepth 100000
namespace L2
open PySem PySem.Spec PyProof.Rows PySem.W
end L2
set_option Elab.async false
set_option linter.all false
set_option maxRecDepth 100000
namespace L2
open PySem PySem.Spec PyProof.Rows PySem.W
end L2
set_option Elab.async false
set_option linter.all false
set_option maxRecDepth 100000
namespace L2
open PySem
namespace ST
def lp (mask : Nat) (x : Nat × Nat) : Nat → Nat × Nat
  | 0 => x
  | n + 1 => SetTable.leap mask (lp mask x n).1 (lp mask x n).2
def fi (m : Nat) : Nat → Nat → Nat
  | 0, x => x
  | n + 1, x => (fi m n x * 5 + 1) % m
theorem fi_add (m a : Nat) (x : Nat) : ∀ b, fi m b (fi m a x) = fi m (a + b) x
  | 0 => rfl
  | b + 1 => by
    show (fi m b (fi m a x) * 5 + 1) % m = (fi m (a + b) x * 5 + 1) % m
    rw [fi_add m a x b]
theorem lp_pert (mask : Nat) (x : Nat × Nat) : ∀ n, (lp mask x n).2 = x.2 / 32 ^ n
  | 0 => by show x.2 = _; rw [Nat.pow_zero, Nat.div_one]
  | n + 1 => by
    show (lp mask x n).2 / 32 = _
    rw [lp_pert mask x n, Nat.div_div_eq_div_mul, Nat.pow_succ]
theorem lp_fi (mask : Nat) (x : Nat × Nat) (h : x.2 < 2 ^ 64) : ∀ m, (lp mask x (13 + m)).1 = fi (mask + 1) m (lp mask x 13).1
  | 0 => rfl
  | m + 1 => by
    show ((lp mask x (13 + m)).1 * 5 + 1 + (lp mask x (13 + m)).2 / 32) % (mask + 1) = (fi (mask + 1) m (lp mask x 13).1 * 5 + 1) % (mask + 1)
    rw [lp_fi mask x h m, lp_pert]
    have : x.2 / 32 ^ (13 + m) = 0 := by
      refine Nat.div_eq_of_lt (Nat.lt_of_lt_of_le h ?_)
      have h1 : (2 : Nat) ^ 64 ≤ 32 ^ 13 := by decide
      exact Nat.le_trans h1 (Nat.pow_le_pow_right (by decide) (Nat.le_add_right _ _))
    rw [this]
def fiOk (m : Nat) : Bool := fi m m 0 == 0 && (List.range m).all fun y => (List.range m).any fun a => fi m a 0 == y
theorem fi_ok : ∀ m ∈ [8, 32], fiOk m = true := by decide +kernel
def orb (m : Nat) : Nat → List Nat
  | 0 => [0]
  | n + 1 => match orb m n with
    | [] => []
    | x :: l => ((x * 5 + 1) % m) :: x :: l
def orbOk : Bool := match orb 128 128 with
  | x :: l => x == 0 && (List.range 128).all fun y => l.contains y
  | [] => false
theorem orb_ok : orbOk = true := by decide +kernel
theorem orb_fi (m : Nat) : ∀ n, ∃ l, orb m n = fi m n 0 :: l ∧ ∀ y ∈ l, ∃ a, a < n ∧ fi m a 0 = y
  | 0 => ⟨[], rfl, fun y hy => by cases hy⟩
  | n + 1 => by
    obtain ⟨l, e, h⟩ := orb_fi m n
    refine ⟨fi m n 0 :: l, ?_, fun y hy => ?_⟩
    · show (match orb m n with | [] => [] | x :: l => ((x * 5 + 1) % m) :: x :: l) = _
      rw [e]; rfl
    · rcases List.mem_cons.mp hy with z | z
      · exact ⟨n, Nat.lt_succ_self _, z.symm⟩
      · obtain ⟨a, ha, ea⟩ := h y z
        exact ⟨a, Nat.lt_succ_of_lt ha, ea⟩
structure Full (m : Nat) : Prop where
  back : fi m m 0 = 0
  all : ∀ y, y < m → ∃ a, a < m ∧ fi m a 0 = y
theorem full_of {m : Nat} (h : fiOk m = true) : Full m := by
  obtain ⟨h1, h2⟩ := Bool.and_eq_true_iff.mp h
  refine ⟨beq_iff_eq.mp h1, fun y hy => ?_⟩
  obtain ⟨a, ha, e⟩ := List.any_eq_true.mp (List.all_eq_true.mp h2 y (List.mem_range.mpr hy))
  exact ⟨a, List.mem_range.mp ha, beq_iff_eq.mp e⟩
theorem full128 : Full 128 := by
  obtain ⟨l, e, h⟩ := orb_fi 128 128
  have ok := orb_ok
  unfold orbOk at ok
  rw [e] at ok
  obtain ⟨h1, h2⟩ := Bool.and_eq_true_iff.mp ok
  refine ⟨beq_iff_eq.mp h1, fun y hy => h y ?_⟩
  exact List.contains_iff_mem.mp (List.all_eq_true.mp h2 y (List.mem_range.mpr hy))
theorem full_all : ∀ m ∈ [8, 32, 128], Full m := fun m hm => by
  rcases List.mem_cons.mp hm with z | z
  · exact full_of (fi_ok m (by rw [z]; simp))
  · rcases List.mem_cons.mp z with z | z
    · exact full_of (fi_ok m (by rw [z]; simp))
    · rw [List.mem_singleton.mp z]; exact full128
theorem Full.meet {m : Nat} (f : Full m) {x y : Nat} (hx : x < m) (hy : y < m) : ∃ k, k < m ∧ fi m k x = y := by
  obtain ⟨a, ha, ea⟩ := f.all x hx
  obtain ⟨b, hb, eb⟩ := f.all y hy
  by_cases h : a ≤ b
  · exact ⟨b - a, by omega, by rw [← ea, fi_add, show a + (b - a) = b by omega]; exact eb⟩
  · refine ⟨b + m - a, by omega, ?_⟩
    rw [← ea, fi_add, show a + (b + m - a) = m + b by omega, ← fi_add, f.back]; exact eb
theorem lp_lt {mask : Nat} {x : Nat × Nat} (h : x.1 ≤ mask) : ∀ n, (lp mask x n).1 ≤ mask
  | 0 => h
  | n + 1 => Nat.lt_succ_iff.mp (Nat.mod_lt _ (Nat.succ_pos _))
theorem lp_meet {mask : Nat} (f : Full (mask + 1)) {x : Nat × Nat} (h1 : x.1 ≤ mask) (h2 : x.2 < 2 ^ 64) {y : Nat} (hy : y ≤ mask) : ∃ n, n < mask + 15 ∧ (lp mask x n).1 = y := by
  obtain ⟨k, hk, e⟩ := f.meet (Nat.lt_succ_of_le (lp_lt h1 13)) (Nat.lt_succ_of_le hy)
  exact ⟨13 + k, by omega, by rw [lp_fi mask x h2]; exact e⟩
theorem bits_lt (h : Int) : SetTable.bits h < 2 ^ 64 := by
  unfold SetTable.bits
  have h1 : 0 ≤ h % (2 ^ 64 : Int) := Int.emod_nonneg _ (by decide)
  have h2 : h % (2 ^ 64 : Int) < 2 ^ 64 := Int.emod_lt_of_pos _ (by decide)
  omega
def advN (t : SetTable) : Nat → SetTable.Probe → SetTable.Probe
  | 0, p => p
  | n + 1, p => advN t n (t.advance p)
theorem advN_add (t : SetTable) : ∀ (a b : Nat) (p : SetTable.Probe), advN t (a + b) p = advN t b (advN t a p)
  | 0, b, p => by rw [Nat.zero_add]; rfl
  | a + 1, b, p => by
    rw [show a + 1 + b = (a + b) + 1 by omega]
    exact advN_add t a b (t.advance p)
theorem adv_run (t : SetTable) : ∀ (k : Nat) (p : SetTable.Probe), k ≤ p.more → advN t k p = { p with j := p.j + k, more := p.more - k }
  | 0, p, _ => rfl
  | k + 1, p, h => by
    show advN t k (t.advance p) = _
    have e : t.advance p = { p with j := p.j + 1, more := p.more - 1 } := by unfold SetTable.advance; rw [if_pos (by omega)]
    rw [e, adv_run t k _ (by show k ≤ p.more - 1; omega)]
    dsimp only
    congr 1 <;> omega
def stand (t : SetTable) (x : Nat × Nat) : SetTable.Probe := { j := x.1, more := SetTable.runEnd t.mask x.1 - x.1, i := x.1, perturb := x.2, dummy := none }
theorem more_le (mask i : Nat) : SetTable.runEnd mask i - i ≤ 9 := by
  unfold SetTable.runEnd
  split <;> omega
theorem adv_leap (t : SetTable) (x : Nat × Nat) : advN t (SetTable.runEnd t.mask x.1 - x.1 + 1) (stand t x) = stand t (SetTable.leap t.mask x.1 x.2) := by
  rw [advN_add, adv_run t (SetTable.runEnd t.mask x.1 - x.1) (stand t x) (Nat.le_refl _)]
  show t.advance _ = _
  unfold SetTable.advance
  rw [if_neg (by show ¬ (SetTable.runEnd t.mask x.1 - x.1 - (SetTable.runEnd t.mask x.1 - x.1) > 0); omega)]
  rfl
theorem adv_lp (t : SetTable) (x : Nat × Nat) : ∀ n, ∃ k, k ≤ 10 * n ∧ advN t k (stand t x) = stand t (lp t.mask x n)
  | 0 => ⟨0, Nat.le_refl _, rfl⟩
  | n + 1 => by
    obtain ⟨k, hk, e⟩ := adv_lp t x n
    refine ⟨k + (SetTable.runEnd t.mask (lp t.mask x n).1 - (lp t.mask x n).1 + 1), ?_, ?_⟩
    · have := more_le t.mask (lp t.mask x n).1
      omega
    · rw [advN_add, e, adv_leap]; rfl
structure Calm (t : SetTable) (hashAt : Nat → Int) (h : Int) : Prop where
  nod : ∀ j, t.slot j ≠ .dummy
  noh : ∀ j i, t.slot j = .live i → hashAt i ≠ h
theorem go_end {t : SetTable} {hashAt : Nat → Int} {h : Int} (c : Calm t hashAt h) : ∀ (fuel : Nat) (p : SetTable.Probe), p.dummy = none → (∃ k, k < fuel ∧ t.slot (advN t k p).j = .empty) → ∃ j, SetTable.probe.go t hashAt h fuel p = some (.empty j none) ∧ t.slot j = .empty ∧ ∃ k, j = (advN t k p).j
  | 0, p, _, ⟨k, hk, _⟩ => absurd hk (Nat.not_lt_zero _)
  | fuel + 1, p, hd, ⟨k, hk, e⟩ => by
    unfold SetTable.probe.go
    cases hs : t.slot p.j with
    | empty => exact ⟨p.j, by dsimp only; rw [hd], hs, 0, rfl⟩
    | dummy => exact absurd hs (c.nod _)
    | live i =>
      dsimp only
      rw [if_neg (by simpa using c.noh _ _ hs)]
      have hd2 : (t.advance p).dummy = none := by
        unfold SetTable.advance
        split
        · exact hd
        · exact hd
      have hk0 : k ≠ 0 := fun z => by subst z; rw [show advN t 0 p = p from rfl, hs] at e; cases e
      obtain ⟨k', rfl⟩ : ∃ k', k = k' + 1 := ⟨k - 1, by omega⟩
      obtain ⟨j, h1, h2, m, h3⟩ := go_end c fuel (t.advance p) hd2 ⟨k', by omega, e⟩
      exact ⟨j, h1, h2, m + 1, h3⟩
theorem adv_le {t : SetTable} : ∀ (k : Nat) (p : SetTable.Probe), p.j + p.more ≤ t.mask → (advN t k p).j ≤ t.mask
  | 0, p, h => by show p.j ≤ t.mask; omega
  | k + 1, p, h => by
    show (advN t k (t.advance p)).j ≤ t.mask
    refine adv_le k _ ?_
    unfold SetTable.advance
    split
    · show p.j + 1 + (p.more - 1) ≤ t.mask; omega
    · show (SetTable.leap t.mask p.i p.perturb).1 + (SetTable.runEnd t.mask (SetTable.leap t.mask p.i p.perturb).1 - (SetTable.leap t.mask p.i p.perturb).1) ≤ t.mask
      have h1 : (SetTable.leap t.mask p.i p.perturb).1 ≤ t.mask := Nat.lt_succ_iff.mp (Nat.mod_lt _ (Nat.succ_pos _))
      unfold SetTable.runEnd
      split <;> omega
theorem probe_empty {t : SetTable} {hashAt : Nat → Int} {h : Int} (c : Calm t hashAt h) (f : Full (t.mask + 1)) {j0 : Nat} (hj : j0 ≤ t.mask) (he : t.slot j0 = .empty) : ∃ j, t.probe hashAt h (t.probeStart h) = some (.empty j none) ∧ t.slot j = .empty ∧ j ≤ t.mask := by
  have e : t.probeStart h = stand t (SetTable.bits h % (t.mask + 1), SetTable.bits h) := rfl
  have hb : SetTable.bits h % (t.mask + 1) ≤ t.mask := Nat.lt_succ_iff.mp (Nat.mod_lt _ (Nat.succ_pos _))
  rw [e]
  obtain ⟨n, hn, en⟩ := lp_meet f (x := (SetTable.bits h % (t.mask + 1), SetTable.bits h)) hb (bits_lt h) hj
  obtain ⟨k, hk, ek⟩ := adv_lp t (SetTable.bits h % (t.mask + 1), SetTable.bits h) n
  obtain ⟨j, h1, h2, m, h3⟩ := go_end c (10 * SetTable.turns t.mask) (stand t (SetTable.bits h % (t.mask + 1), SetTable.bits h)) rfl ⟨k, by unfold SetTable.turns; omega, by rw [ek]; show t.slot (lp t.mask _ n).1 = _; rw [en]; exact he⟩
  refine ⟨j, h1, h2, ?_⟩
  rw [h3]
  refine adv_le m _ ?_
  show SetTable.bits h % (t.mask + 1) + (SetTable.runEnd t.mask (SetTable.bits h % (t.mask + 1)) - SetTable.bits h % (t.mask + 1)) ≤ t.mask
  unfold SetTable.runEnd
  split <;> omega
theorem free_end {mask : Nat} {owner : Array (Option Nat)} (ho : owner.size = mask + 1) : ∀ (fuel : Nat) (x : Nat × Nat), x.1 ≤ mask → (∃ n, n < fuel ∧ owner.getD (lp mask x n).1 (some 0) = none) → ∃ j, SetTable.layClean.free mask owner fuel x.1 x.2 = some j ∧ j ≤ mask ∧ owner.getD j (some 0) = none
  | 0, x, _, ⟨n, hn, _⟩ => absurd hn (Nat.not_lt_zero _)
  | fuel + 1, x, hx, ⟨n, hn, e⟩ => by
    unfold SetTable.layClean.free
    cases hf : (List.range (SetTable.runEnd mask x.1 + 1 - x.1)).find? fun k => (owner.getD (x.1 + k) (some 0)).isNone with
    | some k =>
      have h1 := List.find?_some hf
      have h2 := List.mem_of_find?_eq_some hf
      rw [List.mem_range] at h2
      refine ⟨x.1 + k, rfl, ?_, by simpa using h1⟩
      unfold SetTable.runEnd at h2
      split at h2 <;> omega
    | none =>
      dsimp only
      have hn0 : n ≠ 0 := fun z => by
        subst z
        have := List.find?_eq_none.mp hf 0 (List.mem_range.mpr (by unfold SetTable.runEnd; split <;> omega))
        rw [Nat.add_zero, show owner.getD x.1 (some 0) = none from e] at this
        exact this rfl
      obtain ⟨n', rfl⟩ : ∃ n', n = n' + 1 := ⟨n - 1, by omega⟩
      have shift : ∀ m, lp mask (SetTable.leap mask x.1 x.2) m = lp mask x (m + 1) := by
        intro m
        induction m with
        | zero => rfl
        | succ m ih =>
          show SetTable.leap mask (lp mask (SetTable.leap mask x.1 x.2) m).1 (lp mask (SetTable.leap mask x.1 x.2) m).2 = _
          rw [ih]; rfl
      exact free_end ho fuel (SetTable.leap mask x.1 x.2) (Nat.lt_succ_iff.mp (Nat.mod_lt _ (Nat.succ_pos _))) ⟨n', by omega, by rw [shift]; exact e⟩
theorem fm_congr {α β : Type} {f g : α → Option β} : ∀ {l : List α}, (∀ x ∈ l, f x = g x) → l.filterMap f = l.filterMap g
  | [], _ => rfl
  | a :: l, h => by rw [List.filterMap_cons, List.filterMap_cons, h a List.mem_cons_self, fm_congr fun x hx => h x (List.mem_cons_of_mem _ hx)]
def lives (mask : Nat) (owner : Array (Option Nat)) : List Nat := (List.range (mask + 1)).filterMap fun j => owner.getD j none
theorem lives_set {mask : Nat} {owner : Array (Option Nat)} (ho : owner.size = mask + 1) {j k : Nat} (hj : j ≤ mask) (he : owner.getD j (some 0) = none) : (lives mask (owner.setIfInBounds j (some k))).Perm (k :: lives mask owner) := by
  have hj' : j < owner.size := by omega
  have en : owner.getD j none = none := by
    rw [Array.getD_eq_getD_getElem?, Array.getElem?_eq_getElem hj'] at he ⊢
    exact he
  have same : ∀ i, i ≠ j → (owner.setIfInBounds j (some k)).getD i none = owner.getD i none := fun i hi => by
    rw [Array.getD_eq_getD_getElem?, Array.getD_eq_getD_getElem?, Array.getElem?_setIfInBounds, if_neg (Ne.symm hi)]
  have here : (owner.setIfInBounds j (some k)).getD j none = some k := by
    rw [Array.getD_eq_getD_getElem?, Array.getElem?_setIfInBounds, if_pos rfl, if_pos hj']; rfl
  unfold lives
  have sp : List.range (mask + 1) = List.range j ++ (j :: (List.range (mask - j)).map (· + (j + 1))) := by
    refine List.ext_getElem? fun i => ?_
    by_cases h1 : i < j
    · rw [List.getElem?_append_left (by simpa using h1)]
      simp [show i < mask + 1 by omega, h1]
    · rw [List.getElem?_append_right (by simpa using h1), List.length_range]
      by_cases h2 : i = j
      · subst h2
        rw [Nat.sub_self, List.getElem?_cons_zero, List.getElem?_range (by omega)]
      · obtain ⟨d, hd⟩ : ∃ d, i - j = d + 1 := ⟨i - j - 1, by omega⟩
        rw [hd, List.getElem?_cons_succ, List.getElem?_map]
        by_cases h3 : i < mask + 1
        · rw [List.getElem?_range h3, List.getElem?_range (by omega)]
          show some i = some (d + (j + 1))
          congr 1; omega
        · rw [List.getElem?_eq_none (by simpa using h3), List.getElem?_eq_none (by simp; omega)]; rfl
  rw [sp, List.filterMap_append, List.filterMap_append, List.filterMap_cons, List.filterMap_cons, here, en]
  have e1 : (List.range j).filterMap (fun i => (owner.setIfInBounds j (some k)).getD i none) = (List.range j).filterMap (fun i => owner.getD i none) := fm_congr fun i hi => same i (by have := List.mem_range.mp hi; omega)
  have e2 : ((List.range (mask - j)).map (· + (j + 1))).filterMap (fun i => (owner.setIfInBounds j (some k)).getD i none) = ((List.range (mask - j)).map (· + (j + 1))).filterMap (fun i => owner.getD i none) := fm_congr fun i hi => same i (by obtain ⟨d, _, rfl⟩ := List.mem_map.mp hi; omega)
  rw [e1, e2]
  exact List.perm_middle
end ST
end L2
set_option Elab.async false
set_option linter.all false
set_option maxRecDepth 100000
namespace L2
open PySem
namespace ST
theorem lives_full {mask : Nat} {owner : Array (Option Nat)} (h : ∀ j, j ≤ mask → owner.getD j none ≠ none) : (lives mask owner).length = mask + 1 := by
  unfold lives
  have go : ∀ l : List Nat, (∀ j ∈ l, j ≤ mask) → (l.filterMap fun j => owner.getD j none).length = l.length := by
    intro l
    induction l with
    | nil => intro _; rfl
    | cons a l ih =>
      intro hl
      rw [List.filterMap_cons]
      cases ha : owner.getD a none with
      | none => exact absurd ha (h a (hl a List.mem_cons_self))
      | some v => rw [List.length_cons, List.length_cons, ih fun j hj => hl j (List.mem_cons_of_mem _ hj)]
  rw [go _ fun j hj => Nat.lt_succ_iff.mp (List.mem_range.mp hj), List.length_range]
theorem lay_go {mask : Nat} (f : Full (mask + 1)) : ∀ (l : List Int) (owner : Array (Option Nat)) (k : Nat), owner.size = mask + 1 → (lives mask owner).Perm (List.range k) → k + l.length ≤ mask →
    ∃ ow, l.foldl (fun (acc : Option (Array (Option Nat) × Nat)) h => do
      let (owner, k) ← acc
      let j ← SetTable.layClean.free mask owner (SetTable.turns mask) (SetTable.bits h % (mask + 1)) (SetTable.bits h)
      pure (owner.setIfInBounds j (some k), k + 1)) (some (owner, k)) = some (ow, k + l.length) ∧ ow.size = mask + 1 ∧ (lives mask ow).Perm (List.range (k + l.length))
  | [], owner, k, ho, hp, _ => ⟨owner, rfl, ho, hp⟩
  | h :: l, owner, k, ho, hp, hk => by
    rw [List.length_cons] at hk ⊢
    have ⟨j0, hj0, he0⟩ : ∃ j, j ≤ mask ∧ owner.getD j none = none := Classical.byContradiction fun hc => by
      have := lives_full (mask := mask) (owner := owner) fun j hj e => hc ⟨j, hj, e⟩
      rw [hp.length_eq, List.length_range] at this
      omega
    have he0' : owner.getD j0 (some 0) = none := by
      rw [Array.getD_eq_getD_getElem?, Array.getElem?_eq_getElem (by omega)] at he0 ⊢
      exact he0
    have hb : SetTable.bits h % (mask + 1) ≤ mask := Nat.lt_succ_iff.mp (Nat.mod_lt _ (Nat.succ_pos _))
    obtain ⟨n, hn, en⟩ := lp_meet f (x := (SetTable.bits h % (mask + 1), SetTable.bits h)) hb (bits_lt h) hj0
    obtain ⟨j, h1, h2, h3⟩ := free_end ho (SetTable.turns mask) (SetTable.bits h % (mask + 1), SetTable.bits h) hb ⟨n, by unfold SetTable.turns; omega, by rw [en]; exact he0'⟩
    rw [List.foldl_cons]
    have e : (do
        let (owner, k) ← (some (owner, k) : Option (Array (Option Nat) × Nat))
        let j ← SetTable.layClean.free mask owner (SetTable.turns mask) (SetTable.bits h % (mask + 1)) (SetTable.bits h)
        pure (owner.setIfInBounds j (some k), k + 1)) = some (owner.setIfInBounds j (some k), k + 1) := by
      show (SetTable.layClean.free mask owner (SetTable.turns mask) (SetTable.bits h % (mask + 1)) (SetTable.bits h)).bind _ = _
      rw [h1]; rfl
    rw [e]
    obtain ⟨ow, a1, a2, a3⟩ := lay_go f l (owner.setIfInBounds j (some k)) (k + 1) (by rw [Array.size_setIfInBounds]; exact ho) ((lives_set ho h2 h3).trans ((hp.cons k).trans (by rw [List.range_succ]; exact (List.perm_append_singleton _ _).symm))) (by omega)
    rw [show k + 1 + l.length = k + (l.length + 1) by omega] at a1 a3
    exact ⟨ow, a1, a2, a3⟩
theorem layClean_ok {mask : Nat} (f : Full (mask + 1)) (hs : Array Int) (hn : hs.size ≤ mask) : ∃ ow, SetTable.layClean mask hs = some ow ∧ (lives mask ow).Perm (List.range hs.size) := by
  obtain ⟨ow, a1, a2, a3⟩ := lay_go f hs.toList (Array.replicate (mask + 1) none) 0 (by simp) (by
    have : lives mask (Array.replicate (mask + 1) none) = [] := by
      unfold lives
      refine List.filterMap_eq_nil_iff.mpr fun j _ => ?_
      rw [Array.getD_eq_getD_getElem?]
      by_cases h : j < mask + 1
      · rw [Array.getElem?_replicate, if_pos h]; rfl
      · rw [Array.getElem?_replicate, if_neg h]; rfl
    rw [this]; exact .refl _) (by rw [Array.length_toList]; omega)
  rw [Nat.zero_add, Array.length_toList] at a1 a3
  refine ⟨ow, ?_, a3⟩
  unfold SetTable.layClean
  rw [← Array.foldl_toList]
  exact (congrArg (Option.map (·.1)) a1)
theorem live_fst {mask : Nat} {ow : Array (Option Nat)} : (((List.range (mask + 1)).filterMap fun j => (ow.getD j none).map (j, ·)).map (·.2)) = lives mask ow ∧ (((List.range (mask + 1)).filterMap fun j => (ow.getD j none).map (j, ·)).map (·.1)).Sublist (List.range (mask + 1)) := by
  unfold lives
  generalize List.range (mask + 1) = l
  induction l with
  | nil => exact ⟨rfl, .slnil⟩
  | cons a l ih =>
    rw [List.filterMap_cons, List.filterMap_cons]
    cases ow.getD a none with
    | none => exact ⟨ih.1, ih.2.cons _⟩
    | some v =>
      refine ⟨?_, ?_⟩
      · show v :: _ = v :: _
        rw [← ih.1]
      · exact ih.2.cons₂ _
theorem order_perm {α : Type} {es : Array α} {o : List Nat} (h : o.Perm (List.range es.size)) : (o.filterMap (es[·]?)).Perm es.toList := by
  have e : (List.range es.size).filterMap (es[·]?) = es.toList := by
    have : ∀ l : List α, (List.range l.length).filterMap (l[·]?) = l := by
      intro l
      induction l with
      | nil => rfl
      | cons a l ih =>
        rw [List.length_cons, List.range_succ_eq_map, List.filterMap_cons]
        show a :: _ = a :: l
        congr 1
        rw [List.filterMap_map]
        exact ih
    have := this es.toList
    rw [Array.length_toList] at this
    rw [← this]
    exact fm_congr fun i _ => by rw [Array.getElem?_toList]
  rw [← e]
  exact h.filterMap _
structure TabC (b : Bool) (t : SetTable) (n : Nat) : Prop where
  led : t.led = b
  ris : Ris t.place
  dum : t.dummies = #[]
  le : ∀ j ∈ t.place.toList, j ≤ t.mask
  ms : t.mask ∈ [7, 31, 127]
  sz : t.place.size = n
  nf : n * 5 < t.mask * 3
theorem TabC.full {b : Bool} {t : SetTable} {n : Nat} (c : TabC b t n) : Full (t.mask + 1) := by
  refine full_all _ ?_
  have := c.ms
  simp only [List.mem_cons, List.not_mem_nil, or_false] at this ⊢
  omega
theorem TabC.fits {b : Bool} {t : SetTable} {n : Nat} (c : TabC b t n) : t.place.size = n ∧ t.fill ≤ t.mask := by
  refine ⟨c.sz, ?_⟩
  unfold SetTable.fill
  have := c.nf
  have := c.sz
  rw [c.dum]
  simp only [List.size_toArray, List.length_nil]
  omega
theorem slot_of {b : Bool} {t : SetTable} {n : Nat} (c : TabC b t n) (j : Nat) : (t.slot j = .empty ∧ j ∉ t.place.toList) ∨ ∃ i, t.slot j = .live i ∧ t.place[i]? = some j := by
  have cut := cut_below c.ris j
  unfold SetTable.slot
  dsimp only
  by_cases h : t.place[SetTable.below t.place j]? = some j
  · right
    exact ⟨_, by rw [if_pos (by simpa using h)], h⟩
  · left
    rw [if_neg (by simpa using h), c.dum, has_none, if_neg Bool.false_ne_true]
    refine ⟨rfl, fun hm => h ?_⟩
    obtain ⟨k, hk, e⟩ := List.mem_iff_getElem.mp hm
    rw [Array.length_toList] at hk
    have ek : t.place[k] = j := by simpa using e
    have h1 : ¬ k < SetTable.below t.place j := fun z => by have := cut.lo k hk z; omega
    have hb : SetTable.below t.place j < t.place.size := by omega
    have h2 := cut.hi _ hb (Nat.le_refl _)
    have h3 := c.ris.le (Nat.not_lt.mp h1) hk
    rw [Array.getElem?_eq_getElem hb]
    congr 1
    omega
theorem TabC.room {b : Bool} {t : SetTable} {n : Nat} (c : TabC b t n) : ∃ j, j ≤ t.mask ∧ t.slot j = .empty := Classical.byContradiction fun hc => by
  have sub : ∀ j ∈ List.range (t.mask + 1), j ∈ t.place.toList := fun j hj => by
    rcases slot_of c j with ⟨h, _⟩ | ⟨i, _, h⟩
    · exact absurd ⟨j, Nat.lt_succ_iff.mp (List.mem_range.mp hj), h⟩ hc
    · exact Array.mem_toList_iff.mpr (Array.mem_of_getElem? h)
  have hl := nodup_le (List.nodup_range (n := t.mask + 1)) sub
  rw [List.length_range, Array.length_toList] at hl
  have := c.fits.2
  have e : t.fill = t.place.size := by
    unfold SetTable.fill
    rw [c.dum]; rfl
  omega
theorem TabC.probe {b : Bool} {t : SetTable} {n : Nat} (c : TabC b t n) {hashAt : Nat → Int} {h : Int} (no : ∀ i, i < n → hashAt i ≠ h) : ∃ j, t.probe hashAt h (t.probeStart h) = some (.empty j none) ∧ j ∉ t.place.toList ∧ j ≤ t.mask := by
  obtain ⟨j0, hj0, he0⟩ := c.room
  have cm : Calm t hashAt h := by
    refine ⟨fun j e => ?_, fun j i e => ?_⟩
    · rcases slot_of c j with ⟨h, _⟩ | ⟨i, h, _⟩ <;> rw [e] at h <;> cases h
    · rcases slot_of c j with ⟨h, _⟩ | ⟨i', h, hp⟩
      · rw [e] at h; cases h
      · rw [e] at h
        cases h
        refine no i ?_
        rw [← c.sz]
        exact (Array.getElem?_eq_some_iff.mp hp).1
  obtain ⟨j, h1, h2, h3⟩ := probe_empty cm c.full hj0 he0
  refine ⟨j, h1, ?_, h3⟩
  rcases slot_of c j with ⟨_, h⟩ | ⟨i, h, _⟩
  · exact h
  · rw [h2] at h; cases h
theorem TabC.put {b : Bool} {t : SetTable} {n j : Nat} (c : TabC b t n) (hj : j ∉ t.place.toList) (hm : j ≤ t.mask) : Ris (t.put j).1.place ∧ (t.put j).1.dummies = #[] ∧ (t.put j).1.mask = t.mask ∧ (t.put j).1.led = t.led ∧ (t.put j).1.place.size = n + 1 ∧ (∀ k ∈ (t.put j).1.place.toList, k ≤ t.mask) ∧ (t.put j).1.plain = t.plain := by
  have pl : (t.put j).1.place = SetTable.insertAt t.place (SetTable.below t.place j) j := rfl
  have cut := cut_below c.ris j
  have ne : t.place[SetTable.below t.place j]? ≠ some j := fun z => hj (Array.mem_toList_iff.mpr (Array.mem_of_getElem? z))
  refine ⟨by rw [pl]; exact ris_insert c.ris ne, ?_, rfl, rfl, ?_, fun k hk => ?_, rfl⟩
  · show (if SetTable.has t.dummies j then _ else t.dummies) = _
    rw [c.dum, has_none]; rfl
  · rw [pl, ← Array.length_toList, SetTable.toList_insertAt, List.length_append, List.length_cons, List.length_take, List.length_drop, Array.length_toList]
    have := cut.le
    have := c.sz
    omega
  · rw [pl, SetTable.toList_insertAt] at hk
    rcases List.mem_append.mp hk with z | z
    · exact c.le k (List.mem_of_mem_take z)
    · rcases List.mem_cons.mp z with z | z
      · rw [z]; exact hm
      · exact c.le k (List.mem_of_mem_drop z)
theorem relaid_ok {t : SetTable} {es : Array (Int × Value)} {wanted M : Nat} (hM : SetTable.sizeAbove wanted = M + 1) (hm : M ∈ [7, 31, 127]) (hn : es.size * 5 < M * 3) : ∃ t' o, t.relaid (es.map (·.1)) wanted = some (t', o) ∧ (o.filterMap (es[·]?)).toList.Perm es.toList ∧ TabC t.led t' es.size ∧ t'.plain = t.plain := by
  have f : Full (M + 1) := by
    refine full_all _ ?_
    simp only [List.mem_cons, List.not_mem_nil, or_false] at hm ⊢
    omega
  obtain ⟨ow, e1, e2⟩ := layClean_ok f (es.map (·.1)) (by rw [Array.size_map]; omega)
  rw [Array.size_map] at e2
  obtain ⟨l1, l2⟩ := live_fst (mask := M) (ow := ow)
  have hl : (((List.range (M + 1)).filterMap fun j => (ow.getD j none).map (j, ·)).map (·.1)).length = es.size := by
    have h1 := congrArg List.length l1
    rw [List.length_map] at h1
    rw [List.length_map, h1, e2.length_eq, List.length_range]
  refine ⟨{ mask := M, place := (((List.range (M + 1)).filterMap fun j => (ow.getD j none).map (j, ·)).map (·.1)).toArray, dummies := #[], finger := t.finger, led := t.led, moves := t.movedTo M, plain := t.plain }, (((List.range (M + 1)).filterMap fun j => (ow.getD j none).map (j, ·)).map (·.2)).toArray, ?_, ?_, ⟨rfl, ?_, rfl, fun j hj => ?_, hm, by simpa using hl, hn⟩, rfl⟩
  · unfold SetTable.relaid SetTable.laid
    rw [hM, Nat.add_sub_cancel, e1]
    rfl
  · rw [l1]
    have := order_perm (es := es) e2
    simpa using this
  · unfold Ris
    exact (List.pairwise_lt_range (n := M + 1)).sublist (by simpa using l2)
  · have := l2.subset (by simpa using hj)
    exact Nat.lt_succ_iff.mp (List.mem_range.mp this)
end ST
end L2
set_option Elab.async false
set_option linter.all false
set_option maxRecDepth 100000
namespace L2
open PySem PySem.Spec PyProof.Rows
def cellH (c : Cell) : Int := reduceHash (Builtin.Tuple.tupleHashOf ([c.1, c.2].map hashInt))
def all66 : List Cell := (List.range 6).flatMap fun r : Nat => (List.range 6).map fun c : Nat => ((r : Int), (c : Int))
def hashesApart : Bool := (all66.map cellH).all fun h => ((all66.map cellH).filter (· == h)).length == 1
theorem hashes_apart : hashesApart = true := by decide +kernel
theorem cellH_inj {c d : Cell} (hc : c ∈ all66) (hd : d ∈ all66) (e : cellH c = cellH d) : c = d := by
  have key : ∀ l : List Cell, c ∈ l → d ∈ l → ((l.map cellH).filter (· == cellH c)).length ≤ 1 → c = d := by
    intro l
    induction l with
    | nil => intro h; cases h
    | cons a l ih =>
      intro h1 h2 h3
      rw [List.map_cons, List.filter_cons] at h3
      by_cases ha : cellH a = cellH c
      · rw [if_pos (by simpa using ha), List.length_cons] at h3
        have no : ∀ x ∈ l, cellH x ≠ cellH c := fun x hx z => by
          have : cellH x ∈ (l.map cellH).filter (· == cellH c) := List.mem_filter.mpr ⟨List.mem_map.mpr ⟨x, hx, rfl⟩, by simpa using z⟩
          have := List.length_pos_of_mem this
          omega
        have e1 : c = a := (List.mem_cons.mp h1).resolve_right fun z => no c z rfl
        have e2 : d = a := (List.mem_cons.mp h2).resolve_right fun z => no d z e.symm
        rw [e1, e2]
      · rw [if_neg (by simpa using ha)] at h3
        have n1 : c ≠ a := fun z => ha (by rw [z])
        have n2 : d ≠ a := fun z => ha (by rw [← z]; exact e.symm)
        exact ih ((List.mem_cons.mp h1).resolve_left n1) ((List.mem_cons.mp h2).resolve_left n2) h3
  have h := List.all_eq_true.mp hashes_apart (cellH c) (List.mem_map.mpr ⟨c, hc, rfl⟩)
  exact key _ hc hd (Nat.le_of_eq (beq_iff_eq.mp h))
structure CelAt (h : Heap) (u : Value) (c : Cell) : Prop where
  ex : ∃ (a : Addr) (o : Obj) (t t' : Tok) (n : Nat), u = .ref a ∧ h.get? a = some o ∧ o.cls = .type "tuple" ∧ o.data = .seq #[.int c.1 t, .int c.2 t'] n
theorem CelAt.kept {h h' : Heap} {p : Addr} {c : Cell} (x : CelAt h (.ref p) c) (k : ∀ o, h.get? p = some o → h'.get? p = some o) : CelAt h' (.ref p) c := by
  obtain ⟨a, o, t, t', n, e, h2, h3, h4⟩ := x.ex
  cases e
  exact ⟨p, o, t, t', n, rfl, k _ h2, h3, h4⟩
structure SetCW (b : Bool) (es : Array (Int × Value)) (t : SetTable) (cs : List Cell) : Prop where
  tab : ST.TabC b t es.size
  ids : (es.toList.map (·.1)).Perm (cs.map cellH)
def SetC (b : Bool) (h : Heap) (a : Addr) (cs : List Cell) : Prop := ∃ es ep t, h.get? a = some (setObj es ep t) ∧ SetCW b es t cs
theorem SetCW.len {b : Bool} {es : Array (Int × Value)} {t : SetTable} {cs : List Cell} (x : SetCW b es t cs) : es.size = cs.length := by
  have := x.ids.length_eq
  simpa using this
theorem SetC.kept {b : Bool} {a : Addr} {cs : List Cell} {h h' : Heap} (S : SetC b h a cs) (k : ∀ o, h.get? a = some o → h'.get? a = some o) : SetC b h' a cs := let ⟨es, ep, t, e, x⟩ := S; ⟨es, ep, t, k _ e, x⟩
section
variable {P : Program} {w : World} {A : Around} {E : Value → Shared → Prop} {s : Shared} {b : Bool} {a : Addr} {cs : List Cell}
theorem cell_key {h : Heap} {p : Addr} {c : Cell} (x : CelAt h (.ref p) c) : IsTupleKey (intKind P w) h [c.1, c.2] p := by
  obtain ⟨a, o, t, t', n, e, h2, h3, h4⟩ := x.ex
  cases e
  exact ⟨o, _, n, h2, h3, h4, .cons (by simp [intKind, Value.isInt]) (.cons (by simp [intKind, Value.isInt]) .nil)⟩
theorem hash_byV {p : Addr} {c : Cell} (hx : CelAt s.heap (.ref p) c) {Q : Bool → Shared → Prop} (h : Q true s) : wpAny (model P w) A (hashByValue 8 (.ref p)) Q E s := by
  have hT := (cell_key (P := P) (w := w) hx).typeIs
  obtain ⟨a, o, t, t', n, e, h2, h3, h4⟩ := hx.ex
  cases e
  unfold hashByValue
  refine wpAny_bind (wpAny_specialOf hT PySem.F.slot_tuple_hash.lookup ?_)
  refine (show wpAny _ _ (seqItems? (.ref p) >>= _) _ _ s from wpAny_bind ?_)
  unfold seqItems?
  refine wpAny_bind (wpAny_load h2 ?_)
  rw [h4]
  refine wpAny_pure ?_
  refine wpAny_bind ?_
  rw [← Array.forIn_toList]
  show wpAny (model P w) A (forIn [Value.int c.1 t, Value.int c.2 t'] _ _) _ _ s
  rw [List.forIn_cons]
  refine wpAny_bind ?_
  show wpAny (model P w) A (hashByValue 7 (.int c.1 t) >>= _) _ _ s
  have hv : ∀ (x : Int) (u : Tok), hashByValue 7 (.int x u) = pure true := fun _ _ => rfl
  rw [hv]
  refine wpAny_bind (wpAny_pure ?_)
  refine wpAny_pure ?_
  dsimp only
  rw [List.forIn_cons]
  refine wpAny_bind ?_
  show wpAny (model P w) A (hashByValue 7 (.int c.2 t') >>= _) _ _ s
  rw [hv]
  refine wpAny_bind (wpAny_pure ?_)
  refine wpAny_pure ?_
  dsimp only
  rw [List.forIn_nil]
  exact wpAny_pure (wpAny_pure h)
theorem tab_fits {es : Array (Int × Value)} {t : SetTable} (x : ST.TabC b t es.size) : t.fits es.size = true := by
  unfold SetTable.fits
  rw [Bool.and_eq_true, decide_eq_true_iff, beq_iff_eq]
  exact x.fits
theorem insert_perm {α : Type} (xs : Array α) (p : Nat) (x : α) : (SetTable.insertAt xs p x).toList.Perm (x :: xs.toList) := by
  rw [SetTable.toList_insertAt]
  refine List.perm_middle.trans (List.Perm.cons x ?_)
  rw [List.take_append_drop]
theorem add_cell {p : Addr} {c : Cell} {Q : Bool → Shared → Prop} (S : SetC b s.heap a cs) (hx : CelAt s.heap (.ref p) c) (hin : c ∈ all66) (hs : ∀ d ∈ cs, d ∈ all66) (hc : c ∉ cs) (hl : cs.length < 40)
    (hQ : ∀ h', Heap.SameBut a s.heap h' → SetC b h' a (cs ++ [c]) → Q true { s with heap := h' }) : wpAny (model P w) A (setAddHashed a (.ref p) (cellH c)) Q E s := by
  obtain ⟨es, ep, t, e, x⟩ := id S
  have sz := x.len
  have fit := tab_fits x.tab
  have line : ∀ n : Nat, n < 4000 → n ≤ sizeLine := fun n h => fits_of_scanBound (Nat.lt_trans h (by decide))
  unfold setAddHashed setAddHashedIn
  refine wpAny_holding (wpAny_bind (wpAny_setState_of (o := setObj es ep t) e rfl fit ?_))
  dsimp only
  have nb : byScan (.ref p) es = false := rfl
  rw [nb, if_neg Bool.false_ne_true]
  unfold setSearch setSearchFrom
  refine wpAny_bind (wpAny_bind (wpAny_setState_of (o := setObj es ep t) e rfl fit ?_))
  dsimp only
  have gw : t.gaveWay = false := by
    have := x.tab.ms
    unfold SetTable.gaveWay
    simp only [List.mem_cons, List.not_mem_nil, or_false] at this
    rcases this with z | z | z <;> rw [z] <;> rfl
  rw [gw, if_neg Bool.false_ne_true]
  have no : ∀ i, i < es.size → (es[i]?.map (·.1)).getD 0 ≠ cellH c := fun i hi z => by
    rw [Array.getElem?_eq_getElem hi] at z
    have hm : cellH c ∈ es.toList.map (·.1) := List.mem_map.mpr ⟨es[i], Array.getElem_mem_toList hi, z⟩
    obtain ⟨d, hd, ed⟩ := List.mem_map.mp (x.ids.mem_iff.mp hm)
    exact hc (by rw [← cellH_inj (hs d hd) hin ed]; exact hd)
  obtain ⟨j, pj, nj, mj⟩ := x.tab.probe (h := cellH c) no
  generalize hg : t.probe _ (cellH c) (Option.getD none (t.probeStart (cellH c))) = r
  have er : r = some (.empty j none) := hg.symm.trans pj
  subst er
  clear hg
  dsimp only
  refine wpAny_pure ?_
  dsimp only
  refine wpAny_bind (wpAny_setState_of (o := setObj es ep t) e rfl fit ?_)
  dsimp only
  obtain ⟨r1, r2, r3, r4, r5, r6, r7⟩ := x.tab.put nj mj
  have pm := insert_perm es (t.put j).2 (cellH c, Value.ref p)
  generalize hput : t.put j = T at r1 r2 r3 r4 r5 r6 r7 pm
  obtain ⟨t1, pp⟩ := T
  dsimp only at r1 r2 r3 r4 r5 r6 r7 pm ⊢
  have ids1 : ((SetTable.insertAt es pp (cellH c, Value.ref p)).toList.map (·.1)).Perm ((cs ++ [c]).map cellH) := by
    refine (pm.map _).trans ?_
    rw [List.map_cons, List.map_append]
    exact ((x.ids.cons _)).trans (List.perm_append_singleton _ _).symm
  have sz1 : (SetTable.insertAt es pp (cellH c, Value.ref p)).size = es.size + 1 := by
    have := pm.length_eq
    simpa using this
  have step : ∀ (t2 : SetTable), t2.place = t1.place → t2.dummies = t1.dummies → t2.mask = t1.mask → t2.led = t1.led → wpAny (model P w) A (do
      storeSet a (SetTable.insertAt es pp (cellH c, Value.ref p)) t2
      if (!false && t2.tooFull) = true then do
        setRelay a (SetTable.grown (es.size + 1))
        pure true
      else pure true) Q E s := fun t2 q1 q2 q3 q4 => by
    refine wpAny_bind (wpAny_storeSet_of (o := setObj es ep t) e rfl ?_ (line _ (by omega)))
    have e1 : (s.heap.update a (Obj.putSet (SetTable.insertAt es pp (cellH c, Value.ref p)) t2)).get? a = some (setObj (SetTable.insertAt es pp (cellH c, Value.ref p)) (ep + 1) t2) := Heap.get?_update_self (Obj.putSet (SetTable.insertAt es pp (cellH c, Value.ref p)) t2) e rfl
    have sb1 := Heap.SameBut.update s.heap a (Obj.putSet (SetTable.insertAt es pp (cellH c, Value.ref p)) t2)
    have fill2 : t2.fill = es.size + 1 := by
      unfold SetTable.fill
      rw [q1, q2, r2, r5]; rfl
    have nf := x.tab.nf
    have ms := x.tab.ms
    simp only [List.mem_cons, List.not_mem_nil, or_false] at ms
    by_cases full : t2.tooFull = true
    · rw [full, if_pos (by decide)]
      have fu : (es.size + 1) * 5 ≥ t.mask * 3 := by
        unfold SetTable.tooFull at full
        have := of_decide_eq_true full
        rw [fill2, q3, r3] at this
        exact this
      have sa : ∃ M, SetTable.sizeAbove (SetTable.grown (es.size + 1)) = M + 1 ∧ M ∈ [7, 31, 127] ∧ (es.size + 1) * 5 < M * 3 := by
        rcases ms with z | z | z
        · have : es.size = 4 := by omega
          rw [this]; exact ⟨31, by decide, by decide, by decide⟩
        · have : es.size = 18 := by omega
          rw [this]; exact ⟨127, by decide, by decide, by decide⟩
        · omega
      obtain ⟨M, sM, mM, nM⟩ := sa
      obtain ⟨t3, o, e3, p3, c3, _⟩ := ST.relaid_ok (t := t2) (es := SetTable.insertAt es pp (cellH c, Value.ref p)) sM mM (by rw [sz1]; exact nM)
      unfold setRelay
      have fit2 : t2.fits (SetTable.insertAt es pp (cellH c, Value.ref p)).size = true := by
        unfold SetTable.fits
        rw [Bool.and_eq_true, decide_eq_true_iff, beq_iff_eq, sz1, fill2, q1, r5, q3, r3]
        refine ⟨rfl, ?_⟩
        omega
      refine wpAny_bind (wpAny_bind (wpAny_setState_of (o := setObj (SetTable.insertAt es pp (cellH c, Value.ref p)) (ep + 1) t2) e1 rfl fit2 ?_))
      dsimp only
      have sl : ¬ SetTable.sizeAbove (SetTable.grown (es.size + 1)) > sizeLine := by
        rw [sM]
        have := line (M + 1) (by simp only [List.mem_cons, List.not_mem_nil, or_false] at mM; omega)
        omega
      rw [if_neg sl, e3]
      have z3 : (o.filterMap ((SetTable.insertAt es pp (cellH c, Value.ref p))[·]?)).size = (SetTable.insertAt es pp (cellH c, Value.ref p)).size := by
        have := p3.length_eq
        rwa [Array.length_toList, Array.length_toList] at this
      refine wpAny_bind (show wpAny (model P w) A (if ((o.filterMap ((SetTable.insertAt es pp (cellH c, Value.ref p))[·]?)).size != (SetTable.insertAt es pp (cellH c, Value.ref p)).size) = true then (do unsupported "internal:set-table-lost-an-element"; pure ((o.filterMap ((SetTable.insertAt es pp (cellH c, Value.ref p))[·]?)), t3)) else pure ((o.filterMap ((SetTable.insertAt es pp (cellH c, Value.ref p))[·]?)), t3)) _ _ _ from ?_)
      rw [if_neg (by rw [z3]; simp)]
      refine wpAny_pure ?_
      dsimp only
      refine wpAny_storeSet_of (o := setObj (SetTable.insertAt es pp (cellH c, Value.ref p)) (ep + 1) t2) e1 rfl ?_ (line _ (by rw [z3, sz1]; omega))
      refine wpAny_pure (hQ _ (sb1.trans (Heap.SameBut.update _ a _)) ⟨_, ep + 2, t3, Heap.get?_update_self (Obj.putSet _ t3) e1 rfl, ?_, (p3.map _).trans ids1⟩)
      rw [z3]
      have : t2.led = b := by rw [q4, r4]; exact x.tab.led
      rw [← this]; exact c3
    · have nfull : t2.tooFull = false := by cases h : t2.tooFull <;> simp_all
      rw [nfull, if_neg (by decide)]
      refine wpAny_pure (hQ _ sb1 ⟨_, ep + 1, t2, e1, ⟨by rw [q4, r4]; exact x.tab.led, by rw [q1]; exact r1, by rw [q2]; exact r2, fun k hk => ?_, ?_, by rw [q1, r5, sz1], ?_⟩, ids1⟩)
      · rw [q1] at hk
        rw [q3, r3]; exact r6 k hk
      · rw [q3, r3]; exact x.tab.ms
      · unfold SetTable.tooFull at nfull
        have := of_decide_eq_false nfull
        rw [fill2] at this
        rw [sz1]
        omega
  by_cases hp : t1.plain = true
  · rw [if_pos hp]
    refine wpAny_bind (hash_byV hx ?_)
    exact step t1 rfl rfl rfl rfl
  · rw [if_neg hp]
    refine wpAny_bind (wpAny_pure ?_)
    exact step t1 rfl rfl rfl rfl
end
end L2
set_option Elab.async false
set_option linter.all false
set_option maxRecDepth 100000
namespace L2
open PySem PySem.Spec PyProof.Rows
section
variable {P : Program} {w : World} {A : Around} {E : Value → Shared → Prop} {s : Shared}
theorem setC_new (h : Heap) (b : Bool) : SetC b (h.push (newSetO b)) h.objs.size [] :=
  ⟨#[], 0, _, Heap.get?_push_size _ rfl, ⟨rfl, List.Pairwise.nil, rfl, (fun j hj => by cases hj), (show 7 ∈ [7, 31, 127] by decide), rfl, (show 0 * 5 < 7 * 3 by decide)⟩, .refl _⟩
theorem loop_setC {R : Result → Shared → Prop} {b : Bool} {I : Addr} {fp wr : List Addr} {n : Nat} {V : Nat → Value → Prop} {St : Nat → Heap → Prop} (W : Walks P w A.in1 I fp wr n V St) (S : Addr) (hS : S ∉ fp) (ad : Nat → Addr) (val : Nat → Cell) (hv : ∀ i v, V i v → v = .ref (ad i)) (hn : n ≤ 36) (hu : A.units + 5 < cLine)
    (hf : ∀ i, i < n → val i ∈ all66) (hd : ∀ i j, i < j → j < n → val i ≠ val j) (hw : ∀ i, i < n → ad i ∉ wr ∧ ad i ≠ S) :
    ∀ (k i : Nat) (s : Shared), n - i = k → i ≤ n → St i s.heap → SetC b s.heap S ((List.range i).map val) → (∀ j, j < n → CelAt s.heap (.ref (ad j)) (val j)) →
      (∀ h' tk, SetC b h' S ((List.range n).map val) → (∀ c o, c ∉ wr → c ≠ S → s.heap.get? c = some o → h'.get? c = some o) → R (.ok (.ret .none)) { s with heap := h', toks := tk }) →
      codeAny (model P w) A (.builtin "set.update.loop" ⟨[.ref S, .ref I], []⟩) R s := by
  have nw : S ∉ wr := fun z => hS (W.sub _ z)
  intro k
  induction k with
  | zero =>
    intro i s hk hi st sa hc hR
    have e : i = n := by omega
    subst e
    refine codeAny_builtin PyProof.Rows.F.entry_set_update_loop ?_; rw [Around.under_plainId PyProof.Rows.F.plain_set_update_loop _]
    refine (show wpAny _ A.in1 (pyNext (.ref I) >>= _) _ _ s from wpAny_bind (W.done s _ _ st fun h' tk keep => ?_))
    exact wpAny_pure (hR h' tk (sa.kept fun o q => keep S o nw q) fun c o hc _ q => keep c o hc q)
  | succ k ih =>
    intro i s hk hi st sa hc hR
    have lt : i < n := by omega
    refine codeAny_builtin PyProof.Rows.F.entry_set_update_loop ?_; rw [Around.under_plainId PyProof.Rows.F.plain_set_update_loop _]
    refine (show wpAny _ A.in1 (pyNext (.ref I) >>= _) _ _ s from wpAny_bind (W.item i s _ _ lt st fun v h' tk hP st' keep => ?_))
    have ev := hv i v hP
    subst ev
    have sa' : SetC b h' S ((List.range i).map val) := sa.kept fun o q => keep S o nw q
    have hc' : ∀ j, j < n → CelAt h' (.ref (ad j)) (val j) := fun j hj => (hc j hj).kept fun o q => keep _ o (hw j hj).1 q
    refine (show wpAny _ A.in1 (holding [Value.ref (ad i)] (setAdd S (.ref (ad i))) >>= _) _ _ _ from wpAny_bind (wpAny_holding ?_))
    unfold setAdd
    refine wpAny_holding (wpAny_bind (wpAny_pyHash_tuple (knd := intKind P w) (ks := [(val i).1, (val i).2]) (by show A.units + 1 < cLine; omega) (cell_key (hc' i lt)) ?_))
    have eh : tupleKeyHash (intKind P w) [(val i).1, (val i).2] = cellH (val i) := rfl
    rw [eh]
    refine add_cell (s := { s with heap := h', toks := tk + ([(val i).1, (val i).2].length + 1) }) sa' (hc' i lt) (hf i lt) (fun d hd' => ?_) (fun z => ?_) (by rw [List.length_map, List.length_range]; omega) fun h2 sb s2 => ?_
    · obtain ⟨j, hj, rfl⟩ := List.mem_map.mp hd'
      exact hf j (by have := List.mem_range.mp hj; omega)
    · obtain ⟨j, hj, e⟩ := List.mem_map.mp z
      exact hd j i (List.mem_range.mp hj) lt e
    have s2' : SetC b h2 S ((List.range (i + 1)).map val) := by rw [List.range_succ, List.map_append]; exact s2
    refine wpAny_pure ⟨plainId_quiet PyProof.Rows.F.plain_set_update_loop _, ih (i + 1) _ (by omega) lt (W.frame _ _ _ st' fun c hc o q => ?_) s2' (fun j hj => ?_) fun h3 tk3 s3 k3 => ?_⟩
    · rw [sb.2 c (fun z : c = S => hS (by rw [← z]; exact hc))]; exact q
    · exact (hc' j hj).kept fun o q => by rw [sb.2 _ (hw j hj).2]; exact q
    · refine hR h3 tk3 s3 fun c o hc hn q => k3 c o hc hn ?_
      rw [sb.2 c hn]; exact keep c o hc q
set_option maxHeartbeats 3200000 in
theorem call_setC {l : Addr} {items : Array Value} {cs : List Cell} {Q : Value → Shared → Prop} (hh : A.handled = none) (hu : A.units + 40 < cLine) (hl : s.heap.IsList l items) (hz : items.size = cs.length) (hi : ∀ i (h1 : i < items.size) (h2 : i < cs.length), CelAt s.heap items[i] cs[i]) (hb : cs.length ≤ 36) (hf : ∀ c ∈ cs, c ∈ all66) (hd : cs.Nodup)
    (h : ∀ h' tk, SetC (!w.params.followText "set-order") h' s.heap.objs.size cs → (∀ c o, s.heap.get? c = some o → h'.get? c = some o) → Q (.ref s.heap.objs.size) { s with heap := h', toks := tk }) :
    wpAny (model P w) A (call (.type "set") [.ref l]) Q E s := by
  generalize hbb : (!w.params.followText "set-order") = b at h
  have tc := PySem.F.called_set
  obtain ⟨c, tl, hmro⟩ := tc.mro
  have hmade := tc.made; have hsub := tc.sub; have h1 := tc.notType; have h2 := tc.canCreate; have hct := PySem.F.typeCall_set_1 (.ref l)
  refine wpAny_call (codeAny_of_tree (show wpAny _ _ (callAny (.type "set") _) _ _ _ from wpAny_pure ⟨Code.quiet_builtin _ (by decide +kernel), codeAny_builtin PySem.F.entry_type_call ?_⟩))
  rw [Around.under_plain (weight_type_call_type "set" [.ref l] []) rfl]
  repeat (any_goals (first | assumption | wp_step))
  refine codeAny_mono (set_new (.ref l) (E := E) (Q := fun obj s1 => obj = .ref s.heap.objs.size ∧ s1 = { s with heap := s.heap.push (newSetO b) }) (by subst hbb; exact ⟨rfl, rfl⟩)) fun r s1 hr => ?_
  cases r with
  | error e => exact hr
  | ok fl =>
    cases fl with
    | ret obj =>
      obtain ⟨rfl, rfl⟩ := hr
      have at0 : (s.heap.push (newSetO b)).get? s.heap.objs.size = some (newSetO b) := Heap.get?_push_size _ rfl
      have ty : Shared.TypeIs { s with heap := s.heap.push (newSetO b) } (.ref s.heap.objs.size) "set" := ⟨_, at0, rfl⟩
      have hli := tc.init.lookup; have hbi := tc.init.bind (.ref s.heap.objs.size)
      repeat (any_goals (first | assumption | wp_step))
      refine codeAny_mono (codeAny_call_builtin (R := wants (fun r s2 => r = .none ∧ ∃ h' tk, s2 = { s with heap := h', toks := tk } ∧ SetC b h' s.heap.objs.size cs ∧ ∀ c o, s.heap.get? c = some o → h'.get? c = some o) E) tc.init.plain PySem.F.entry_set_init (check_set_init_1 ty ?_)) fun r2 s2 hr2 => ?_
      · obtain ⟨ol, hol, hcl, nl, hdl⟩ := hl
        obtain ⟨c1, c2, c3, c4⟩ := ol
        simp only at hcl hdl
        subst hcl hdl
        have hlS : l < s.heap.objs.size := Heap.lt_size hol
        have hol' : (s.heap.push (newSetO b)).get? l = some { cls := .type "list", dict := c2, data := .seq items nl, slots := c4 } := Heap.get?_push_of_some _ hol
        have l1 : (s.heap.push (newSetO b)).IsList l items := ⟨_, hol', rfl, nl, rfl⟩
        have g1 := PySem.F.sub_list_set; have g2 := PySem.F.sub_list_frozenset
        have g3 : (Value.type "list" == Value.type "dict") = false := by decide
        unfold Builtin.«set.__init__» noKeywords Builtin.Frozenset.updateFrom
        generalize hPI : pyIter = PI
        wp_walk
        subst hPI
        refine wpAny_pyIter_list l1 (wpAny_bind (wpAny_runValue ?_))
        have zp : (s.heap.push (newSetO b)).objs.size = s.heap.objs.size + 1 := Heap.size_push _ _
        have ne : l ≠ (s.heap.push (newSetO b)).objs.size := by rw [zp]; exact Nat.ne_of_lt (Nat.lt_succ_of_lt hlS)
        have nS : s.heap.objs.size ∉ [(s.heap.push (newSetO b)).objs.size, l] := by
          rw [zp]; simp only [List.mem_cons, List.not_mem_nil, or_false, not_or]; exact ⟨Nat.ne_of_lt (Nat.lt_succ_self _), Nat.ne_of_gt hlS⟩
        obtain ⟨ad, adr⟩ : ∃ ad : Nat → Addr, ∀ i, i < items.size → items[i]? = some (.ref (ad i)) ∧ CelAt s.heap (.ref (ad i)) (cs.getD i (0, 0)) := by
          refine ⟨fun i => match items[i]? with | some (.ref p) => p | _ => 0, fun i h1 => ?_⟩
          have hc := hi i h1 (by omega)
          obtain ⟨p, o, t, t', n, e, x2, x3, x4⟩ := hc.ex
          have e1 : items[i]? = some (.ref p) := by rw [Array.getElem?_eq_getElem h1, e]
          have e2 : (match items[i]? with | some (.ref p) => p | _ => 0) = p := by rw [e1]
          dsimp only
          rw [e2]
          refine ⟨e1, ?_⟩
          rw [List.getD_eq_getElem?_getD, List.getElem?_eq_getElem (by omega)]
          rw [e] at hc
          exact hc
        have old : ∀ i, i < items.size → ad i < s.heap.objs.size := fun i h1 => by
          obtain ⟨p, o, t, t', n, e, x2, _⟩ := (adr i h1).2.ex
          cases e
          exact Heap.lt_size x2
        have vals : (List.range items.size).map (fun i => cs.getD i (0, 0)) = cs := by
          rw [hz]
          refine List.ext_getElem? fun i => ?_
          rw [List.getElem?_map]
          by_cases hi' : i < cs.length
          · rw [List.getElem?_range hi', List.getElem?_eq_getElem hi']
            show some (cs.getD i (0, 0)) = _
            rw [List.getD_eq_getElem?_getD, List.getElem?_eq_getElem hi']; rfl
          · rw [List.getElem?_eq_none (by simpa using hi'), List.getElem?_eq_none (by simpa using hi')]; rfl
        refine loop_setC (b := b) (Walks.list (show A.in1.in1.in1.handled = none by simp [hh]) _ l ne items) s.heap.objs.size nS ad (fun i => cs.getD i (0, 0)) (fun i v q => ?_) (by omega) (by show A.units + 1 + 1 + 5 < cLine; omega) (fun i hi' => ?_) (fun i j hij hj e => ?_) (fun i hi' => ?_) (items.size - 0) 0 _ (by omega) (Nat.zero_le _) ⟨⟨_, Heap.get?_push_size _ rfl, rfl, rfl⟩, l1.push _⟩
          ((setC_new s.heap b).kept fun o q => Heap.get?_push_of_some _ q) (fun j hj => (adr j hj).2.kept fun o q => Heap.get?_push_of_some _ (Heap.get?_push_of_some _ q)) fun h' tk sa keep => ?_
        · have h1 : i < items.size := (Array.getElem?_eq_some_iff.mp q).1
          have := (adr i h1).1
          rw [q] at this
          exact Option.some.inj this
        · refine hf _ ?_
          rw [List.getD_eq_getElem?_getD, List.getElem?_eq_getElem (by omega)]; exact List.getElem_mem _
        · rw [List.getD_eq_getElem?_getD, List.getElem?_eq_getElem (by omega), List.getD_eq_getElem?_getD, List.getElem?_eq_getElem (by omega)] at e
          have : i = j := (List.getElem_inj hd).mp e
          omega
        · refine ⟨?_, Nat.ne_of_lt (old i hi')⟩
          rw [zp]; simp only [List.mem_singleton]; exact Nat.ne_of_lt (Nat.lt_succ_of_lt (old i hi'))
        · rw [vals] at sa
          refine wpAny_pure (wpAny_pure ⟨rfl, h', tk, rfl, sa, fun c o q => ?_⟩)
          have lc := Heap.lt_size q
          exact keep c o (by rw [zp]; simp only [List.mem_singleton]; exact Nat.ne_of_lt (Nat.lt_succ_of_lt lc)) (Nat.ne_of_lt lc) (Heap.get?_push_of_some _ (Heap.get?_push_of_some _ q))
      · cases r2 with
        | error e => exact hr2
        | ok fl2 =>
          cases fl2 with
          | ret r =>
            obtain ⟨rfl, h', tk, rfl, sa, keep⟩ := hr2
            repeat (any_goals (first | assumption | wp_step))
            exact h _ _ sa keep
          | _ => exact hr2.elim
    | _ => exact hr.elim
theorem len_setC {b : Bool} {a : Addr} {cs : List Cell} {Q : Value → Shared → Prop} (S : SetC b s.heap a cs) (hl : cs.length ≤ 1000) (h : ∀ tk tk', Q (.int cs.length tk) { s with toks := tk' }) : wpAny (model P w) A (call (.builtin "len") [.ref a]) Q E s := by
  obtain ⟨es, ep, t, e, x⟩ := S
  have sz := x.len
  refine call_len_set (o := setObj es ep t) e ⟨rfl, rfl, rfl⟩ rfl (tab_fits x.tab) (by omega) ?_
  rw [sz]
  exact h _ _
end
end L2
set_option Elab.async false
set_option linter.all false
set_option maxRecDepth 100000
namespace L2
open PySem PySem.Spec PyProof.Rows
theorem slicePick_rev (its : List Value) : slicePick its.toArray none none (some (-1)) = its.reverse.toArray := by
  unfold slicePick
  have b1 : (sliceBounds none none (some (-1)) its.toArray.size).1 = (its.length : Int) - 1 := by simp [sliceBounds]
  have b2 : (sliceBounds none none (some (-1)) its.toArray.size).2.1 = -1 := by simp [sliceBounds]
  have b3 : (sliceBounds none none (some (-1)) its.toArray.size).2.2 = -1 := by simp [sliceBounds]
  rw [b1, b2, b3]
  have e : sliceRange ((its.length : Int) - 1) (-1) (-1) = (List.range its.length).map fun k => its.length - 1 - k := by
    unfold sliceRange
    have c : (if (-1 : Int) > 0 then (if (its.length : Int) - 1 < -1 then (-1 - ((its.length : Int) - 1) + -1 - 1) / -1 else 0) else (if (its.length : Int) - 1 > -1 then ((its.length : Int) - 1 - -1 - -1 - 1) / (- -1) else 0)).toNat = its.length := by
      rw [if_neg (by decide)]
      by_cases h : (its.length : Int) - 1 > -1
      · rw [if_pos h, show (- -1 : Int) = 1 by decide, Int.ediv_one]; omega
      · rw [if_neg h]; omega
    dsimp only
    rw [c]
    refine List.map_congr_left fun k hk => ?_
    have := List.mem_range.mp hk
    omega
  rw [e]
  congr 1
  rw [List.filterMap_map]
  have go : ∀ l : List Value, (List.range l.length).filterMap (fun k => l[l.length - 1 - k]?) = l.reverse := by
    intro l
    refine List.ext_getElem? fun i => ?_
    have all : (List.range l.length).filterMap (fun k => l[l.length - 1 - k]?) = (List.range l.length).map (fun k => l.getD (l.length - 1 - k) Value.none) := by
      rw [← List.filterMap_eq_map]
      exact ST.fm_congr fun k hk => by
        have := List.mem_range.mp hk
        rw [List.getElem?_eq_getElem (by omega)]
        show some l[l.length - 1 - k] = some (l.getD _ _)
        rw [List.getD_eq_getElem?_getD, List.getElem?_eq_getElem (by omega)]; rfl
    rw [all, List.getElem?_map]
    by_cases h : i < l.length
    · rw [List.getElem?_range h, List.getElem?_reverse h]
      show some (l.getD (l.length - 1 - i) Value.none) = _
      rw [List.getD_eq_getElem?_getD, List.getElem?_eq_getElem (by omega)]; rfl
    · rw [List.getElem?_eq_none (by simpa using h), List.getElem?_eq_none (by simpa using h)]; rfl
  have := go its
  rw [← this]
  refine ST.fm_congr fun k hk => ?_
  show its.toArray[its.length - 1 - k]? = _
  rw [List.getElem?_toArray]
theorem vals_rev : ∀ {vs : List V} {us : List Value}, Vals vs us → Vals vs.reverse us.reverse
  | _, _, .nil => .nil
  | _, _, .cons h t => by
    rw [List.reverse_cons, List.reverse_cons]
    exact (vals_rev t).append (.cons h .nil)
section
variable {X : Cx} {e st : Expr} {te ts : TE} {pos p2 : Pos}
def tRev (K : PySem.W.Frag) (te ts : TE) : TE := fun σ H Q => te σ H fun x H1 => ts σ H1 fun y H2 => y = .int (-1) ∧ ∃ a xs, x = .ref a ∧ SqL K H2 a xs ∧ ∀ p, H2 p = none → Q (.ref p) (upd H2 p (.lst xs.reverse))
theorem pe_rev (he : PE X e te) (hs : PE X st ts) : PE X (.Subscript e (.Slice none none (some st) p2) pos) (tRev X.K te ts) := by
  intro pins s σ H Q I h
  refine Subscript_ (thn (he pins s σ H _ I h) fun v s1 ⟨x, H1, I1, r1, q1⟩ => ?_)
  refine wpAny_Slice ?_
  rw [evalPart_none]
  refine wpAny_pure ?_
  rw [evalPart_some]
  refine wpAny_pure (thn (hs pins s1 σ H1 _ I1 q1) fun vs s2 ⟨y, H2, I2, r2, q2⟩ => ?_)
  obtain ⟨rfl, a, xs, rfl, hx, q⟩ := q2
  obtain ⟨t, rfl⟩ := r2
  cases r1
  have I4 : Inv X pins σ H2 { s2 with heap := s2.heap.push { cls := .type "slice", data := .fields #[.none, .none, .int (-1) t] } } := I2.kept (t' := s2.toks) fun b ob q => Heap.get?_push_of_some _ q
  obtain ⟨its, r, ht, hz⟩ := I4.list hx
  have hlen := r.length
  show wpAny (model X.prog X.w) X.A (subscriptTail e (.Slice none none (some st) p2) (.ref a) (.ref s2.heap.objs.size)) (EP X pins σ Q) X.xe { s2 with heap := s2.heap.push { cls := .type "slice", data := .fields #[.none, .none, .int (-1) t] } }
  refine tail_any (ops := [.ref a, .ref s2.heap.objs.size]) ht.isList.typeIs slot_list_getitem.lookup ?_ (by with_unfolding_all rfl)
  refine wpAny_getItem_list_slice ht.isList (Heap.IsSliceOf.new ..) .none .none (.int (-1) t) (by decide) ?_ (by rw [List.size_toArray] <;> omega)
  rw [slicePick_rev]
  refine ⟨.ref _, _, I4.laid (t' := s2.toks) (o := .lst xs.reverse) (fun b ob q => Heap.get?_push_of_some _ q) (Nat.le_refl _) ?_, rfl, q _ (I4.hok.fresh (Nat.le_refl _))⟩
  exact ⟨by rw [List.length_reverse]; exact hz, _, 0, vals_rev r, Heap.get?_push_size _ rfl⟩
theorem r_rev {K : PySem.W.Frag} (he : RE X e te) (hs : RE X st ts) (hK : X.K = K := by rfl) : RE X (.Subscript e (.Slice none none (some st) p2) pos) (tRev K te ts) := by subst hK; exact ⟨pe_rev he.ok hs.ok⟩
def setOC (w : World) (a : Addr) (cs : List Cell) : HO := .ext fun h => SetC (!w.params.followText "set-order") h a cs
def rSetC (K : PySem.W.Frag) (w : World) : List V → Hp → VK → Prop := fun xs H Q => ∃ (p : Addr) (cs : List Cell), xs = [.ref p] ∧ Ls K H p (cs.map cellD) ∧ cs.length ≤ 36 ∧ (∀ c ∈ cs, c ∈ all66) ∧ cs.Nodup ∧ ∀ a, H a = none → Q (.ref a) (upd H a (setOC w a cs))
theorem call_setCR (hc : X.calm = true) (hu : X.A.units + 60 < cLine) : CallR X (.type "set") (rSetC X.K X.w) := by
  intro pins s σ H xs us Q I r h
  obtain ⟨p, cs, rfl, ⟨vs, ep, D⟩, h36, hf, hd, q⟩ := h
  obtain ⟨u, rfl, ru⟩ := vals1 r
  cases ru
  obtain ⟨its, rv, pl, hz⟩ := I.list (SqL.of ep)
  have hl : its.length = cs.length := by rw [← rv.length, D.length, List.length_map]
  refine call_setC (cs := cs) (I.ok.hd hc) (by omega) pl.isList (by simpa using hl) (fun i h1 h2 => ?_) h36 hf hd fun h' tk sa keep => ?_
  · have jv : i < vs.length := by rw [rv.length, hl]; exact h2
    obtain ⟨u', eu, ru⟩ := rv.get (show vs[i]? = some vs[i] from by simp [jv])
    obtain ⟨d', ed, dd⟩ := D.get (show vs[i]? = some vs[i] from by simp [jv])
    rw [List.getElem?_map, List.getElem?_eq_getElem h2] at ed
    cases ed
    have e4 : its.toArray[i] = u' := by
      rw [List.getElem?_eq_getElem (by omega)] at eu
      simpa using Option.some.inj eu
    rw [e4]
    exact ⟨cell_obj I dd ru⟩
  · have hn : H s.heap.objs.size = none := I.hok.fresh (Nat.le_refl _)
    refine ⟨.ref s.heap.objs.size, upd H s.heap.objs.size (setOC X.w s.heap.objs.size cs), I.laid (t' := tk) keep (Nat.le_refl _) ⟨sa, ?_, fun h1 h2 hp hk => ?_⟩, rfl, q _ hn⟩
    · obtain ⟨es, ep, t, e, _⟩ := sa
      exact ⟨_, e⟩
    · exact SetC.kept hp hk
theorem k_setC {K : PySem.W.Frag} {w : World} (hc : X.calm = true) (hu : X.A.units + 60 < cLine) (hK : X.K = K := by rfl) (hw : X.w = w := by rfl) : CallR X (.type "set") (rSetC K w) := by subst hK hw; exact call_setCR hc hu
def rLenSet (w : World) : List V → Hp → VK → Prop := fun xs H Q => ∃ (a : Addr) (cs : List Cell), xs = [.ref a] ∧ H a = some (setOC w a cs) ∧ cs.length ≤ 1000 ∧ Q (.int cs.length) H
theorem call_lenSet : CallR X (.builtin "len") (rLenSet X.w) := by
  intro pins s σ H xs us Q I r h
  obtain ⟨a, cs, rfl, e, hl, q⟩ := h
  obtain ⟨u, rfl, ru⟩ := vals1 r
  cases ru
  obtain ⟨sa, _, _⟩ := I.hok a _ e
  exact len_setC sa hl fun tk tk' => ⟨.int cs.length, H, I.tok _, ⟨tk, rfl⟩, q⟩
theorem k_lenSet {w : World} (hw : X.w = w := by rfl) : CallR X (.builtin "len") (rLenSet w) := by subst hw; exact call_lenSet
end
end L2
set_option Elab.async false
set_option linter.all false
set_option maxRecDepth 100000
set_option maxHeartbeats 1000000
namespace My
open PySem L2
def top (i : Nat) : Stmt := PySem.Challenge.pw_dampfield_k11_whole_any_order.main.body.getD i (.Pass ⟨0, 0, 0, 0⟩)
abbrev s_is_row : Stmt := top 11
theorem sc_is_row : FnScope ["row", "width"] ["row", "width"] (defScope s_is_row) := ⟨rfl, rfl, rfl, by decide +kernel, rfl, by decide +kernel, by decide +kernel⟩
abbrev s_is_size : Stmt := top 12
theorem sc_is_size : FnScope ["height", "width"] ["height", "width"] (defScope s_is_size) := ⟨rfl, rfl, rfl, by decide +kernel, rfl, by decide +kernel, by decide +kernel⟩
abbrev s_is_view : Stmt := top 13
theorem sc_is_view : FnScope ["rows"] ["rows"] (defScope s_is_view) := ⟨rfl, rfl, rfl, by decide +kernel, rfl, by decide +kernel, by decide +kernel⟩
abbrev s_View___init__ : Stmt := inClass (top 14) 0
theorem sc_View___init__ : FnScope ["self", "rows"] ["self", "rows"] (defScope s_View___init__) := ⟨rfl, rfl, rfl, by decide +kernel, rfl, by decide +kernel, by decide +kernel⟩
abbrev s_has_cell : Stmt := top 15
theorem sc_has_cell : FnScope ["view", "cell"] ["view", "cell"] (defScope s_has_cell) := ⟨rfl, rfl, rfl, by decide +kernel, rfl, by decide +kernel, by decide +kernel⟩
abbrev s_is_closed : Stmt := top 16
theorem sc_is_closed : FnScope ["view", "cell"] ["view", "cell"] (defScope s_is_closed) := ⟨rfl, rfl, rfl, by decide +kernel, rfl, by decide +kernel, by decide +kernel⟩
abbrev s_near : Stmt := top 17
theorem sc_near : FnScope ["view", "cell", "found", "row", "column"] ["view", "cell"] (defScope s_near) := ⟨rfl, rfl, rfl, by decide +kernel, rfl, by decide +kernel, by decide +kernel⟩
abbrev s_is_laying : Stmt := top 18
theorem sc_is_laying : FnScope ["view", "laying", "place"] ["view", "laying"] (defScope s_is_laying) := ⟨rfl, rfl, rfl, by decide +kernel, rfl, by decide +kernel, by decide +kernel⟩
abbrev s_stones_near : Stmt := top 19
theorem sc_stones_near : FnScope ["view", "cell", "laying"] ["view", "cell", "laying"] (defScope s_stones_near) := ⟨rfl, rfl, rfl, by decide +kernel, rfl, by decide +kernel, by decide +kernel⟩
abbrev s_Game___init__ : Stmt := inClass (top 21) 0
theorem sc_Game___init__ : FnScope ["self", "height", "width", "stones", "field"] ["self", "height", "width", "stones"] (defScope s_Game___init__) := ⟨rfl, rfl, rfl, by decide +kernel, rfl, by decide +kernel, by decide +kernel⟩
abbrev s_Game_uncover : Stmt := inClass (top 21) 1
theorem sc_Game_uncover : FnScope ["self", "cell", "opened", "waiting", "member"] ["self", "cell"] (defScope s_Game_uncover) := ⟨rfl, rfl, rfl, by decide +kernel, rfl, by decide +kernel, by decide +kernel⟩
abbrev s_Game_view : Stmt := inClass (top 21) 2
theorem sc_Game_view : FnScope ["self", "rows", "row", "signs"] ["self"] (defScope s_Game_view) := ⟨rfl, rfl, rfl, by decide +kernel, rfl, by decide +kernel, by decide +kernel⟩
abbrev s_Game_state : Stmt := inClass (top 21) 3
theorem sc_Game_state : FnScope ["self"] ["self"] (defScope s_Game_state) := ⟨rfl, rfl, rfl, by decide +kernel, rfl, by decide +kernel, by decide +kernel⟩
abbrev s__law_cell_at : Stmt := top 23
theorem sc__law_cell_at : FnScope ["script", "k"] ["script", "k"] (defScope s__law_cell_at) := ⟨rfl, rfl, rfl, by decide +kernel, rfl, by decide +kernel, by decide +kernel⟩
abbrev s__law_mix : Stmt := top 24
theorem sc__law_mix : FnScope ["cell", "k", "many", "some", "stir"] ["cell", "k", "many"] (defScope s__law_mix) := ⟨rfl, rfl, rfl, by decide +kernel, rfl, by decide +kernel, by decide +kernel⟩
abbrev s__law_field_by : Stmt := top 28
theorem sc__law_field_by : FnScope ["script", "most", "cell", "height", "width", "thin", "stones", "r", "c"] ["script", "most"] (defScope s__law_field_by) := ⟨rfl, rfl, rfl, by decide +kernel, rfl, by decide +kernel, by decide +kernel⟩
abbrev s__law_played : Stmt := top 32
theorem sc__law_played : FnScope ["game", "cells", "found", "cell"] ["game", "cells"] (defScope s__law_played) := ⟨rfl, rfl, rfl, by decide +kernel, rfl, by decide +kernel, by decide +kernel⟩
abbrev s_law : Stmt := top 33
theorem sc_law : FnScope ["script", "height", "width", "stones", "free", "r", "cell", "some", "one", "two", "first", "turn", "other", "second"] ["script"] (defScope s_law) := ⟨rfl, rfl, rfl, by decide +kernel, rfl, by decide +kernel, by decide +kernel⟩
structure Adr where
  FieldError : Addr
  BadView : Addr
  BadLaying : Addr
  NoCell : Addr
  Over : Addr
  View : Addr
  Game : Addr
structure Txt (K : PySem.W.Frag) (mg : Str → Option Value) (Z : Adr) : Prop where
  b_all : mg "all" = none
  b_int : mg "int" = none
  b_len : mg "len" = none
  b_list : mg "list" = none
  b_max : mg "max" = none
  b_min : mg "min" = none
  b_range : mg "range" = none
  b_set : mg "set" = none
  b_sorted : mg "sorted" = none
  b_str : mg "str" = none
  g_MOST_ROWS : ∃ t, mg "MOST_ROWS" = some (.int 6 t)
  g_MOST_COLUMNS : ∃ t, mg "MOST_COLUMNS" = some (.int 6 t)
  g_CLOSED_SIGN : ∃ t, mg "CLOSED_SIGN" = some (.str "#" t)
  g_SIGNS : ∃ t, mg "SIGNS" = some (.str "#012345678" t)
  c_FieldError : mg "FieldError" = some (.ref Z.FieldError)
  x_FieldError : ErrCls K Z.FieldError
  c_BadView : mg "BadView" = some (.ref Z.BadView)
  x_BadView : ErrCls K Z.BadView
  c_BadLaying : mg "BadLaying" = some (.ref Z.BadLaying)
  x_BadLaying : ErrCls K Z.BadLaying
  c_NoCell : mg "NoCell" = some (.ref Z.NoCell)
  x_NoCell : ErrCls K Z.NoCell
  c_Over : mg "Over" = some (.ref Z.Over)
  x_Over : ErrCls K Z.Over
  c_View : mg "View" = some (.ref Z.View)
  cl_View : Cls K Z.View
  n_View_rows : NoAttr K Z.View "rows"
  n_View_height : NoAttr K Z.View "height"
  n_View_width : NoAttr K Z.View "width"
  c_Game : mg "Game" = some (.ref Z.Game)
  cl_Game : Cls K Z.Game
  n_Game_field : NoAttr K Z.Game "field"
  n_Game_hidden : NoAttr K Z.Game "hidden"
  n_Game_figures : NoAttr K Z.Game "figures"
  n_Game_lost : NoAttr K Z.Game "lost"
def spCell (K : PySem.W.Frag) : Sp := fun vs H Q _ => ∃ (a : Addr) (ns : List Int) (k : Int), vs = [.ref a, .int k] ∧ 0 ≤ k ∧ SqL K H a (ns.map V.int) ∧ ∀ r : Int, Q (.int r) H
def spMix : Sp := fun vs H Q _ => ∃ (c k m : Int), vs = [.int c, .int k, .int m] ∧ 0 < m ∧ ∀ (r : Int) (H' : Hp), 0 ≤ r → r < m → Same H H' → Q (.int r) H'
section
variable {P : Program} {w : World} {K : PySem.W.Frag} {mg : Str → Option Value} {base : Heap} {Z : Adr}
theorem ok_cell {f : Addr} {fd : FuncData} (F : Fun K "_law_cell_at" "_law_cell_at" s__law_cell_at f fd) (T : Txt K mg Z) : FnOk P w K mg base (CXE P w) 1 f fd ["script", "k"] (spCell K) := by
  refine F.rok sc__law_cell_at (fun vs H Q E h => ?_) (fun cdv A outer s H vs Q E hr h => ?_)
  · obtain ⟨a, ns, k, rfl, _⟩ := h; rfl
  · obtain ⟨a, ns, k, rfl, h0, hS, hq⟩ := h
    refine ⟨_, (rss_cons (rs_if (rt_cmp op_lt (rv 1) (r_callB (k_len (K := K)) rfl T.b_len bt_len (ra_cons (rv 0) ra_nil)) (nomark _)) (rss_one (rs_ret (r_ix (k_ix (K := K)) (rv 0) (rv 1)))) rss_nil) (rss_one (rs_ret r_int))), ?_⟩
    refine ⟨_, rfl, _, rfl, .inl ⟨a, _, rfl, .inl hS, _, _, rfl, rfl, _, rfl, ?_⟩⟩
    refine ite2 (fun hk => ?_) (fun _ => ?_)
    · have hk' : k < ns.length := by have := of_decide_eq_true hk; simp only [List.length_map] at this; exact this
      obtain ⟨v, e⟩ := atI_int h0 hk'
      exact ⟨_, rfl, _, rfl, .inl ⟨a, _, _, _, rfl, rfl, hS, e, hq _⟩⟩
    · exact hq 0
theorem ok_mix {f : Addr} {fd : FuncData} (F : Fun K "_law_mix" "_law_mix" s__law_mix f fd) (T : Txt K mg Z) : FnOk P w K mg base (CXE P w) 1 f fd ["cell", "k", "many"] spMix := by
  refine F.rok sc__law_mix (fun vs H Q E h => ?_) (fun cdv A outer s H vs Q E hr h => ?_)
  · obtain ⟨c, k, m, rfl, _⟩ := h; rfl
  · obtain ⟨c, k, m, rfl, hm, hq⟩ := h
    refine ⟨_, (rss_cons (rs_set (i := 3) sc__law_mix.nd rfl (by first | exact Or.inl rfl | exact Or.inr rfl) (r_lst (ra_cons r_int (ra_cons r_int (ra_cons r_int (ra_cons r_int (ra_cons r_int (ra_cons r_int (ra_cons r_int (ra_cons r_int (ra_cons r_int (ra_cons r_int (ra_cons r_int (ra_cons r_int (ra_cons r_int ra_nil))))))))))))))) (rss_cons (rs_set (i := 4) sc__law_mix.nd rfl (by first | exact Or.inl rfl | exact Or.inr rfl) (r_op op_addG (r_op op_addG (r_op op_mulG (r_op op_addG (r_op op_mod (rv 0) r_int) r_int) (r_ix (k_ix (K := K)) (rv 3) (r_op op_mod (rv 1) r_int))) (r_op op_mulG r_int (rv 1))) (r_op op_mulG r_int (r_op op_fdiv (rv 1) r_int)))) (rss_cons (rs_set (i := 4) sc__law_mix.nd rfl (by first | exact Or.inl rfl | exact Or.inr rfl) (r_op op_mod (rv 4) r_int)) (rss_one (rs_ret (r_op op_mod (r_op op_fdiv (r_op op_mod (r_op op_addG (r_op op_mulG (rv 4) (rv 4)) (r_op op_mulG r_int (rv 1))) r_int) r_int) (rv 2))))))), ?_⟩
    refine ⟨by decide, fun p hp => ?_⟩
    have b0 : 0 ≤ c % 2147483647 := Int.emod_nonneg _ (by decide)
    have b1 : c % 2147483647 < 2147483647 := Int.emod_lt_of_pos _ (by decide)
    obtain ⟨v, e⟩ := atI_int (ns := [48271, 69621, 16807, 39373, 30269, 40014, 40692, 50021, 61687, 71993, 83869, 95561, 30307]) (i := k % 13) (Int.emod_nonneg _ (by decide)) (Int.emod_lt_of_pos _ (by decide))
    refine ⟨_, rfl, _, _, rfl, rfl, (by show (0 : Int) < 2147483647; decide), _, rfl, _, rfl, _, _, rfl, rfl, (by show (0 : Int) < 13; decide), .inl ⟨p, _, _, _, rfl, rfl, .of upd_same, e, .inl ⟨by omega, by omega⟩, ?_⟩⟩
    refine ⟨_, rfl, .inl ⟨by omega, by omega⟩, ?_⟩
    refine ⟨_, rfl, _, _, rfl, rfl, ⟨by decide, by decide⟩, .inl ⟨by omega, by omega⟩, ?_⟩
    refine ⟨_, rfl, _, _, rfl, rfl, (by show (0 : Int) < 1000000007; decide), ?_⟩
    refine ⟨_, rfl, _, rfl, .inl ⟨by omega, by omega⟩, ?_⟩
    refine ⟨_, rfl, .inl ⟨by omega, by omega⟩, ?_⟩
    refine ⟨_, _, rfl, rfl, (by show (0 : Int) < 1000000007; decide), ?_⟩
    refine ⟨_, _, rfl, rfl, ⟨by decide, by decide⟩, ?_⟩
    refine ⟨_, rfl, _, _, rfl, rfl, hm, ?_⟩
    exact hq _ _ (Int.emod_nonneg _ (by omega)) (Int.emod_lt_of_pos _ hm) (Same.put hp)
end
end My
set_option Elab.async false
set_option linter.all false
set_option maxRecDepth 100000
set_option maxHeartbeats 1000000
namespace My
open PySem L2
def spField (K : PySem.W.Frag) : Sp := fun vs H Q _ => ∃ (a : Addr) (ns : List Int) (m : Int), vs = [.ref a, .int m] ∧ SqL K H a (ns.map V.int) ∧ 1 ≤ m ∧ m ≤ 6 ∧ ∀ (t p : Addr) (H' : Hp) (h w : Nat) (st : List Cell), Same H H' → H p = none → SqT K H' t [.int h, .int w, .ref p] → Ls K H' p (st.map cellD) →
  1 ≤ h → (h : Int) ≤ m → 1 ≤ w → (w : Int) ≤ m → st.Sublist (fieldL h w) → Q (.ref t) H'
end My
set_option Elab.async false
set_option linter.all false
set_option maxRecDepth 100000
set_option maxHeartbeats 1000000
namespace My
open PySem L2
section
variable {P : Program} {w : World} {K : PySem.W.Frag} {mg : Str → Option Value} {base : Heap} {Z : Adr}
theorem ok_field {f : Addr} {fd : FuncData} (F : Fun K "_law_field_by" "_law_field_by" s__law_field_by f fd) (T : Txt K mg Z) (D__law_cell_at : Df P w K mg base 1 "_law_cell_at" ["script", "k"] (spCell K)) (D__law_mix : Df P w K mg base 1 "_law_mix" ["cell", "k", "many"] spMix) :
    FnOk P w K mg base (CXE P w) 2 f fd ["script", "most"] (spField K) := by
  refine F.rok sc__law_field_by (fun vs H Q E h => ?_) (fun cdv A outer s H vs Q E hr h => ?_)
  · obtain ⟨a, ns, m, rfl, _⟩ := h; rfl
  · obtain ⟨a, ns, m, rfl, hS, m1, m6, hq⟩ := h
    have hu := hu60 hr
    refine ⟨_, (rss_cons (rs_set (i := 2) sc__law_field_by.nd rfl (by first | exact Or.inl rfl | exact Or.inr rfl) (r_def D__law_cell_at hr rfl passE (ra_cons (rv 0) (ra_cons r_int ra_nil)))) (rss_cons (rs_par (i := 3) (j := 4) rfl sc__law_field_by.nd rfl rfl (by decide) rfl rfl (ra_cons (r_op op_addG r_int (r_def D__law_mix hr rfl passE (ra_cons (rv 2) (ra_cons r_int (ra_cons (rv 1) ra_nil))))) (ra_cons (r_op op_addG r_int (r_def D__law_mix hr rfl passE (ra_cons (rv 2) (ra_cons r_int (ra_cons (rv 1) ra_nil))))) ra_nil)) rfl) (rss_cons (rs_set (i := 5) sc__law_field_by.nd rfl (by first | exact Or.inl rfl | exact Or.inr rfl) (r_ix (k_ix (K := K)) (r_lst (ra_cons r_int (ra_cons r_int (ra_cons r_int ra_nil)))) (r_def D__law_mix hr rfl passE (ra_cons (rv 2) (ra_cons r_int (ra_cons r_int ra_nil)))))) (rss_cons (rs_set (i := 6) sc__law_field_by.nd rfl (by first | exact Or.inl rfl | exact Or.inr rfl) (r_lst ra_nil)) (rss_cons (rs_for PassesOwn.never rfl (ri_range1 rfl T.b_range (ra_cons (rv 3) ra_nil)) (rg_name (i := 7) sc__law_field_by.nd rfl (by first | exact Or.inl rfl | exact Or.inr rfl)) (rss_one (rs_for PassesOwn.never rfl (ri_range1 rfl T.b_range (ra_cons (rv 4) ra_nil)) (rg_name (i := 8) sc__law_field_by.nd rfl (by first | exact Or.inl rfl | exact Or.inr rfl)) (rss_one (rs_if (rt_cmp (op_eq.or (k_eqD (K := K) hu)) (r_def D__law_mix hr rfl passE (ra_cons (r_def D__law_cell_at hr rfl passE (ra_cons (rv 0) (ra_cons (r_op op_addG r_int (rv 7)) ra_nil))) (ra_cons (rv 8) (ra_cons (rv 5) ra_nil)))) r_int (nomark _)) (rss_one (rs_expr (kr_bm (K := K) PySem.F.plainAttrs_list PySem.F.slot_list_append PySem.F.type_list_append mt_append (rv 6) (ra_cons (r_tup (ra_cons (rv 7) (ra_cons (rv 8) ra_nil))) ra_nil)))) rss_nil))))) (rss_one (rs_ret (r_tup (ra_cons (rv 3) (ra_cons (rv 4) (ra_cons (rv 6) ra_nil))))))))))), ?_⟩
    refine seq_mid (fun σ H1 => ∃ c : Int, Same H H1 ∧ σ = [some (.ref a), some (.int m), some (.int c), none, none, none, none, none, none]) (fun R hR => ?_) ?_
    · exact ⟨_, rfl, a, ns, 0, rfl, by decide, hS, fun r => hR _ _ ⟨r, Same.refl _, rfl⟩⟩
    rintro σ H1 ⟨c, s1, rfl⟩
    refine seq_mid (fun σ H2 => ∃ h w : Nat, Same H H2 ∧ (1 ≤ h ∧ (h : Int) ≤ m) ∧ (1 ≤ w ∧ (w : Int) ≤ m) ∧ σ = [some (.ref a), some (.int m), some (.int c), some (.int h), some (.int w), none, none, none, none]) (fun R hR => ?_) ?_
    · refine ⟨_, rfl, _, rfl, _, 1, _, rfl, by omega, fun r1 H1 a1 b1 t1 => ?_⟩
      refine ⟨_, rfl, _, rfl, _, 2, _, rfl, by omega, fun r2 H2 a2 b2 t2 => ?_⟩
      refine ⟨_, _, rfl, hR _ _ ⟨(1 + r1).toNat, (1 + r2).toNat, s1.trans (t1.trans t2), by omega, by omega, ?_⟩⟩
      rw [Int.toNat_of_nonneg (by omega), Int.toNat_of_nonneg (by omega)]; rfl
    rintro σ H2 ⟨h, w, s2, bh, bw, rfl⟩
    refine seq_mid (fun σ H3 => ∃ t : Int, 0 < t ∧ Same H H3 ∧ σ = [some (.ref a), some (.int m), some (.int c), some (.int h), some (.int w), some (.int t), none, none, none]) (fun R hR => ?_) ?_
    · refine ⟨sz rfl, fun l hl => ?_⟩
      have t1 := Same.put (o := .lst [V.int 3, V.int 5, V.int 9]) hl
      refine ⟨_, rfl, _, 3, 3, rfl, by decide, fun r H3 a3 b3 t3 => ?_⟩
      obtain ⟨v, hv, e⟩ := atI_of (xs := ([3, 5, 9] : List Int).map V.int) (i := r) a3 (by simpa using b3)
      obtain ⟨n, hn, rfl⟩ := List.mem_map.mp hv
      refine .inl ⟨l, _, _, _, rfl, rfl, SqL.of (t3 _ _ upd_same), e, hR _ _ ⟨n, ?_, s2.trans (t1.trans t3), rfl⟩⟩
      exact (by decide : ∀ x ∈ ([3, 5, 9] : List Int), 0 < x) n hn
    rintro σ H3 ⟨t, ht, s3, rfl⟩
    refine seq_mid (fun σ H4 => ∃ p, H p = none ∧ Same H H4 ∧ H4 p = some (.lst []) ∧ σ = [some (.ref a), some (.int m), some (.int c), some (.int h), some (.int w), some (.int t), some (.ref p), none, none]) (fun R hR => ?_) ?_
    · exact ⟨by decide, fun p hp => hR _ _ ⟨p, s3.free hp, s3.and hp, upd_same, rfl⟩⟩
    rintro σ H4 ⟨p, np, s4, hp, rfl⟩
    have h6 : h ≤ 6 := by omega
    have w6 : w ≤ 6 := by omega
    refine seq_mid (fun σ H5 => ∃ (st : List Cell) (v7 v8 : Option V), Same H H5 ∧ Ls K H5 p (st.map cellD) ∧ st.Sublist (fieldL h w) ∧ σ = [some (.ref a), some (.int m), some (.int c), some (.int h), some (.int w), some (.int t), some (.ref p), v7, v8]) (fun R hR => ?_) ?_
    · refine ⟨_, rfl, _, rfl, by omega, by omega, ?_⟩
      rw [Int.toNat_natCast]
      refine for_range (lo := 0) (n := h) (fun i σ H' => ∃ (st : List Cell) (v7 v8 : Option V), Same H H' ∧ Ls K H' p (st.map cellD) ∧ st.Sublist (fieldL i w) ∧ σ = [some (.ref a), some (.int m), some (.int c), some (.int h), some (.int w), some (.int t), some (.ref p), v7, v8])
        ⟨[], none, none, s4, ⟨[], hp, .nil⟩, List.nil_sublist _, rfl⟩ (fun i σ H' hi hh => ?_) (fun σ H' hh => hR _ _ hh)
      obtain ⟨st, v7, v8, g1, g2, g3, rfl⟩ := hh
      refine ⟨_, rfl, _, rfl, by omega, by omega, ?_⟩
      rw [Int.toNat_natCast]
      refine for_range (lo := 0) (n := w) (fun j σ H' => ∃ (st : List Cell) (v8 : Option V), Same H H' ∧ Ls K H' p (st.map cellD) ∧ st.Sublist (fieldL i w ++ (List.range j).map fun c : Nat => ((i : Int), (c : Int))) ∧ σ = [some (.ref a), some (.int m), some (.int c), some (.int h), some (.int w), some (.int t), some (.ref p), some (.int (0 + i)), v8])
        ⟨st, v8, g1, g2, by simpa using g3, rfl⟩ (fun j σ H' hj hh => ?_) (fun σ H' hh => ?_)
      · obtain ⟨st, v8, g1, g2, g3, rfl⟩ := hh
        have step : fieldL i w ++ (List.range (j + 1)).map (fun c : Nat => ((i : Int), (c : Int))) = (fieldL i w ++ (List.range j).map fun c : Nat => ((i : Int), (c : Int))) ++ [((i : Int), (j : Int))] := by
          rw [List.range_succ, List.map_append, ← List.append_assoc]; rfl
        have hl := g3.length_le
        rw [List.length_append, field_len, List.length_map, List.length_range] at hl
        have hl2 : i * w ≤ 6 * 6 := Nat.mul_le_mul (by omega) w6
        refine ⟨_, rfl, _, rfl, a, ns, _, rfl, by omega, g1.seq hS, fun r => ?_⟩
        refine ⟨_, rfl, _, rfl, _, _, _, rfl, ht, fun r2 H6 a6 b6 t6 => .inl ⟨rfl, _, rfl, ?_⟩⟩
        refine ite2 (fun _ => ?_) (fun _ => ?_)
        · refine ⟨_, rfl, .inl ⟨rfl, _, SqL.of (t6 _ _ g2.choose_spec.1)⟩, ?_⟩
          obtain ⟨xs, ex, D⟩ := g2
          refine ⟨_, rfl, _, rfl, sz rfl, fun u hu => ?_⟩
          have su := Same.put (o := .tup [V.int (0 + i), V.int (0 + j)]) hu
          refine ⟨p, xs, _, rfl, rfl, su _ _ (t6 _ _ ex), ltl (by rw [D.length, List.length_map]; omega), ?_⟩
          refine ⟨st ++ [((i : Int), (j : Int))], _, ?_, ⟨xs ++ [.ref u], upd_same, ?_⟩, ?_, rfl⟩
          · exact (SameBut.refl p _).put.of (g1.trans (t6.trans su)) np
          · rw [List.map_append]
            refine ((SameBut.refl p _).put.cells (su _ _ (t6 _ _ ex)) ((D.mono t6).mono su)).append (.cons ((SameBut.refl p _).put.cell (su _ _ (t6 _ _ ex)) ?_) .nil)
            rw [Int.zero_add, Int.zero_add]; exact den_cell
          · rw [step]; exact g3.append (List.Sublist.refl _)
        · refine ⟨st, _, g1.trans t6, g2.mono t6, ?_, rfl⟩
          rw [step]; exact g3.trans (List.sublist_append_left _ _)
      · obtain ⟨st, v8, g1, g2, g3, rfl⟩ := hh
        exact ⟨st, _, _, g1, g2, by rw [field_succ]; exact g3, rfl⟩
    rintro σ H5 ⟨st, v7, v8, g1, g2, g3, rfl⟩
    refine ⟨_, rfl, _, rfl, _, rfl, sz rfl, fun u hu => ?_⟩
    exact hq u p _ h w st (g1.and hu) np (SqT.of upd_same) (g2.mono (Same.put hu)) bh.1 bh.2 bw.1 bw.2 g3
end
end My
set_option Elab.async false
set_option linter.all false
set_option maxRecDepth 100000
set_option maxHeartbeats 1000000
namespace My
open PySem L2
end My
set_option Elab.async false
set_option linter.all false
set_option maxRecDepth 100000
set_option maxHeartbeats 1000000
namespace My
open PySem L2
end My
set_option Elab.async false
set_option linter.all false
set_option maxRecDepth 100000
set_option maxHeartbeats 1000000
namespace My
open PySem L2
section
variable {P : Program} {w : World} {K : PySem.W.Frag} {mg : Str → Option Value} {base : Heap} {Z : Adr}
def freeN (w : Nat) (st : List Cell) (n : Nat) : List Cell := (fieldL n w).filter fun y => !decide (y ∈ st)
theorem freeN_succ (w : Nat) (st : List Cell) (n : Nat) : freeN w st (n + 1) = freeN w st n ++ ((List.range w).filter fun c : Nat => !decide (((n : Int), (c : Int)) ∈ st)).map fun c : Nat => ((n : Int), (c : Int)) := by
  unfold freeN
  rw [field_succ, List.filter_append, List.filter_map]; rfl
theorem freeN_len (w : Nat) (st : List Cell) (n : Nat) : (freeN w st n).length ≤ n * w := by
  unfold freeN
  exact Nat.le_trans (List.length_filter_le _ _) (by rw [field_len]; exact Nat.le_refl _)
end
end My
set_option Elab.async false
set_option linter.all false
set_option maxRecDepth 100000
set_option maxHeartbeats 1000000
namespace My
open PySem L2
end My
set_option Elab.async false
set_option linter.all false
set_option maxRecDepth 100000
set_option maxHeartbeats 1000000
namespace My
open PySem L2
theorem Dens.strs' {K : PySem.W.Frag} {H : Hp} {α : Type} {g : α → Str} : ∀ xs : List α, Dens K H (xs.map (V.str ∘ g)) (xs.map fun x => Dt.str (g x))
  | [] => .nil
  | x :: xs => .cons (.str _) (Dens.strs' xs)
theorem signs_all {K : PySem.W.Frag} {H : Hp} {z : Str} {σ : L2.St} {Q : VK} {te : TE} (hz : z.length ≤ sizeLine)
    (ht : ∀ (c : Nat) (H' : Hp), ∀ G : VK, G (.bl (inS "#012345678" c)) H' → te (some (.str ⟨#[c]⟩) :: σ) H' G)
    (hq : ∀ H', Same H H' → Q (.bl (z.cps.toList.all (inS "#012345678"))) H') :
    ∃ W : Nat → Nat → List V → Hp → Prop, (∃ m, W 0 m [] H) ∧ CompW (Its z) tYes te σ (fun ys H2 => ∀ p, H2 p = none → ∃ (q : Addr) (bs : List Bool), [V.ref p] = [.ref q] ∧ SqL K (upd H2 p (.lst ys)) q (bs.map V.bl) ∧ Q (.bl (bs.all id)) (upd H2 p (.lst ys))) W := by
  refine comp_map (K := K) (xs := z.cps.toList) (enc := fun c => Dt.str ⟨#[c]⟩) (over_str z) (by rw [List.map_map]; exact Dens.strs' _) (by rw [Array.length_toList]; exact hz) (fun c => Dt.bl (inS "#012345678" c)) (fun c _ v H' s D G hG => ?_) (fun ys H' s D p hp => ?_)
  · cases D
    exact ht c H' G (hG _ _ (Same.refl _) (.bl _))
  · have e : ys = (z.cps.toList.map (inS "#012345678")).map V.bl := by
      refine Dens.of_bls (K := K) (H := H') ?_
      rw [List.map_map]; exact D
    refine ⟨p, z.cps.toList.map (inS "#012345678"), rfl, SqL.of (by rw [upd_same, e]), ?_⟩
    rw [List.all_map]
    exact hq _ (s.and hp)
def spRow : Sp := fun vs H Q _ => ∃ (z : Str) (n : Int), vs = [.str z, .int n] ∧ z.length ≤ 1000 ∧ ∀ H', Same H H' → Q (.bl (rowB z n)) H'
theorem chain_leV {l n m : Int} {te : TE} {σ : L2.St} {H : Hp} {G : VK} (he : ∀ Q' : VK, Q' (.int m) H → te σ H Q') (hg : G (.bl (decide (l ≤ n ∧ n ≤ m))) H) :
    if decide (l ≤ n) = true then te σ H (fun w' H4 => rI0 (fun i j => .bl (decide (i ≤ j))) (.int n) w' H4 G) else G (.bl false) H := by
  refine ite2 (fun h1 => he _ ⟨_, _, rfl, rfl, ?_⟩) (fun h1 => ?_)
  · have h1' := of_decide_eq_true h1
    have e : decide (l ≤ n ∧ n ≤ m) = decide (n ≤ m) := by simp [h1']
    show G (.bl (decide (n ≤ m))) H
    rw [← e]; exact hg
  · have e : decide (l ≤ n ∧ n ≤ m) = false := decide_eq_false fun h => h1 (decide_eq_true h.1)
    rw [← e]; exact hg
def sizeB (m n : Int) : Bool := decide (1 ≤ m ∧ m ≤ 6) && decide (1 ≤ n ∧ n ≤ 6)
def spSize : Sp := fun vs H Q _ => ∃ (m n : Int), vs = [.int m, .int n] ∧ Q (.bl (sizeB m n)) H
def spView (K : PySem.W.Frag) : Sp := fun vs H Q _ => ∃ (p : Addr) (zs : List Str), vs = [.ref p] ∧ SqL K H p (zs.map V.str) ∧ zs.length ≤ 1000 ∧ (∀ z ∈ zs, z.length ≤ 1000) ∧ ∀ H', Same H H' → Q (.bl (viewB zs)) H'
theorem len_v {zs : List Str} : (((zs.map V.str).length : Nat) : Int) = (zs.length : Int) := by rw [List.length_map]
theorem rows_all {K : PySem.W.Frag} {H : Hp} {a : Addr} {zs : List Str} {n : Int} {σ : L2.St} {Q : VK} {te : TE} (hS : SqL K H a (zs.map V.str)) (hz : zs.length ≤ 1000)
    (ht : ∀ z ∈ zs, ∀ (H' : Hp), Same H H' → ∀ G : VK, (∀ H'', Same H' H'' → G (.bl (rowB z n)) H'') → te (some (.str z) :: σ) H' G)
    (hq : ∀ H', Same H H' → Q (.bl (zs.all fun r => rowB r n)) H') :
    ∃ W : Nat → Nat → List V → Hp → Prop, (∃ m, W 0 m [] H) ∧ CompW (Itl K a) tYes te σ (fun ys H2 => ∀ p, H2 p = none → rAll K [V.ref p] (upd H2 p (.lst ys)) Q) W := by
  refine comp_map (K := K) (xs := zs) (enc := Dt.str) (over_list hS) (Dens.strs zs) (small (by omega)) (fun z => Dt.bl (rowB z n)) (fun z hz v H' s D G hG => ?_) (fun ys H' s D p hp => ?_)
  · cases D
    exact ht z hz H' s G fun H'' s'' => hG _ _ s'' (.bl _)
  · have e : ys = (zs.map fun z => rowB z n).map V.bl := by
      refine Dens.of_bls (K := K) (H := H') ?_
      rw [List.map_map]; exact D
    refine ⟨p, zs.map fun z => rowB z n, rfl, SqL.of (by rw [upd_same, e]), ?_⟩
    rw [List.all_map]
    exact hq _ (s.and hp)
section
variable {P : Program} {w : World} {K : PySem.W.Frag} {mg : Str → Option Value} {base : Heap} {Z : Adr}
theorem ok_row {f : Addr} {fd : FuncData} (F : Fun K "is_row" "is_row" s_is_row f fd) (T : Txt K mg Z) : FnOk P w K mg base (CXE P w) 1 f fd ["row", "width"] spRow := by
  refine F.rok sc_is_row (fun vs H Q E h => ?_) (fun cdv A outer s H vs Q E hr h => ?_)
  · obtain ⟨z, n, rfl, _⟩ := h; rfl
  · obtain ⟨z, n, rfl, hz, hq⟩ := h
    have hu := hu60 hr
    have hu' := hu61 hr
    have hz' : z.length ≤ sizeLine := small (by omega)
    refine ⟨_, (rss_one (rs_ret (r_and (r_cmp (op_eq.or (k_eqD (K := K) hu)) (r_callB (k_len (K := K)) rfl T.b_len bt_len (ra_cons (rv 0) ra_nil)) (rv 1) (nomark _)) (r_one (r_callB (k_all (K := K) rfl) rfl T.b_all bt_all (ra_cons (r_comp (by rfl) rfl (ri_str (rv 0)) (fun _ _ _ => rif_nil) (fun _ _ _ => (r_cmp (op_in_str.or (k_inD (K := K) hu')) (rv 0) (r_gstr T.g_SIGNS rfl) (by rfl)))) ra_nil)))))), ?_⟩
    refine ⟨_, rfl, .inr ⟨z, rfl, hz', _, rfl, .inl ⟨rfl, _, rfl, ?_⟩⟩⟩
    rw [dec_v]
    refine ite2 (fun h1 => ?_) (fun h1 => ?_)
    · refine ⟨_, rfl, z, rfl, signs_all (K := K) hz' (fun c H' G hG => ⟨_, rfl, .inl ⟨_, _, rfl, rfl, hG⟩⟩) fun H' s' => ?_⟩
      have := hq H' s'
      unfold rowB at this
      rw [h1, Bool.true_and] at this
      exact this
    · have := hq H (Same.refl _)
      unfold rowB at this
      rw [Bool.eq_false_iff.mpr h1, Bool.false_and] at this
      exact this
theorem ok_size {f : Addr} {fd : FuncData} (F : Fun K "is_size" "is_size" s_is_size f fd) (T : Txt K mg Z) : FnOk P w K mg base (CXE P w) 1 f fd ["height", "width"] spSize := by
  refine F.rok sc_is_size (fun vs H Q E h => ?_) (fun cdv A outer s H vs Q E hr h => ?_)
  · obtain ⟨m, n, rfl, _⟩ := h; rfl
  · obtain ⟨m, n, rfl, hq⟩ := h
    refine ⟨_, (rss_one (rs_ret (r_and (r_chain op_le op_le r_int (rv 0) (r_gint T.g_MOST_ROWS rfl)) (r_one (r_chain op_le op_le r_int (rv 1) (r_gint T.g_MOST_COLUMNS rfl)))))), ?_⟩
    refine ⟨_, rfl, _, _, rfl, rfl, _, rfl, ?_⟩
    refine chain_leV (m := 6) (fun _ q => q) ⟨_, rfl, ite_b (fun hb => ?_) (fun hb => ?_)⟩
    · unfold sizeB at hq
      rw [hb, Bool.true_and] at hq
      refine ⟨_, rfl, _, _, rfl, rfl, _, rfl, ?_⟩
      exact chain_leV (m := 6) (fun _ q => q) hq
    · unfold sizeB at hq
      rw [hb, Bool.false_and] at hq
      exact hq
theorem size_iff {m n : Int} : sizeB m n = true ↔ ((1 ≤ m ∧ m ≤ 6) ∧ (1 ≤ n ∧ n ≤ 6)) := by
  unfold sizeB
  rw [Bool.and_eq_true, decide_eq_true_iff, decide_eq_true_iff]
theorem ok_view {f : Addr} {fd : FuncData} (F : Fun K "is_view" "is_view" s_is_view f fd) (T : Txt K mg Z) (D_is_row : Df P w K mg base 1 "is_row" ["row", "width"] spRow) (D_is_size : Df P w K mg base 1 "is_size" ["height", "width"] spSize) : FnOk P w K mg base (CXE P w) 2 f fd ["rows"] (spView K) := by
  refine F.rok sc_is_view (fun vs H Q E h => ?_) (fun cdv A outer s H vs Q E hr h => ?_)
  · obtain ⟨p, zs, rfl, _⟩ := h; rfl
  · obtain ⟨p, zs, rfl, hS, hn, hz, hq⟩ := h
    have hu := hu60 hr
    refine ⟨_, (rss_cons (rs_if (rt_b (rb_or (rt_cmp (op_eq.or (k_eqD (K := K) hu)) (r_callB (k_len (K := K)) rfl T.b_len bt_len (ra_cons (rv 0) ra_nil)) r_int (nomark _)) (rb_or1 (rt_not (rt_val (r_def D_is_size hr rfl passE (ra_cons (r_callB (k_len (K := K)) rfl T.b_len bt_len (ra_cons (rv 0) ra_nil)) (ra_cons (r_callB (k_len (K := K)) rfl T.b_len bt_len (ra_cons (r_ix (k_ix (K := K)) (rv 0) r_int) ra_nil)) ra_nil)))))))) (rss_one (rs_ret r_bl)) rss_nil) (rss_one (rs_ret (r_callB (k_all (K := K) rfl) rfl T.b_all bt_all (ra_cons (r_comp (by rfl) rfl (kri_list (K := K) (rv 0)) (fun _ _ _ => rif_nil) (fun _ _ _ => (r_def D_is_row hr rfl passE (ra_cons (rv 0) (ra_cons (r_callB (k_len (K := K)) rfl T.b_len bt_len (ra_cons (r_ix (k_ix (K := K)) (rv 1) r_int) ra_nil)) ra_nil))))) ra_nil))))), ?_⟩
    refine ⟨_, rfl, .inl ⟨p, _, rfl, .inl hS, .inl ⟨rfl, _, rfl, ?_⟩⟩⟩
    rw [len_v, dec_v]
    refine ite_b (fun hb => ?_) (fun hb => ?_)
    · cases zs with
      | nil => exact hq H (Same.refl _)
      | cons z zs => have := of_decide_eq_true hb; simp only [List.length_cons] at this; omega
    cases zs with
    | nil => cases hb
    | cons z zs =>
      have z0 := hz z List.mem_cons_self
      refine ⟨_, rfl, .inl ⟨p, _, rfl, .inl hS, _, rfl, .inl ⟨p, _, _, _, rfl, rfl, hS, atI_zero, .inr ⟨z, rfl, small (by omega), ?_⟩⟩⟩⟩
      refine ⟨_, _, rfl, ?_⟩
      rw [len_v]
      refine ⟨_, rfl, ite_b (fun h1 => ?_) (fun h1 => ?_)⟩
      · have := hq H (Same.refl _)
        have h1 : ¬ sizeB ((z :: zs).length : Nat) z.length = true := by simpa using h1
        rw [size_iff] at h1
        by_cases h2 : (z :: zs).length ≤ 6
        · rw [viewB_wide (by simp only [List.length_cons] at h1 h2 ⊢; omega)] at this
          exact this
        · rw [viewB_long h2] at this
          exact this
      · have h1 : sizeB ((z :: zs).length : Nat) z.length = true := by simpa using h1
        rw [size_iff] at h1
        obtain ⟨⟨a1, a2⟩, a3, a4⟩ := h1
        refine ⟨_, rfl, p, rfl, ⟨_, hS⟩, rows_all hS hn (n := z.length) (fun r hr' H' s' G hG => ?_) fun H' s' => ?_⟩
        · refine ⟨_, rfl, _, rfl, .inl ⟨p, _, _, _, rfl, rfl, s'.seq hS, atI_zero, .inr ⟨z, rfl, small (by omega), ?_⟩⟩⟩
          exact ⟨r, _, rfl, hz r hr', hG⟩
        · rw [← viewB_cons (by omega) (by omega) (by omega)]
          exact hq H' s'
def spInit (K : PySem.W.Frag) (C B : Addr) : Sp := fun vs H Q E => ∃ (x dx p : Addr) (z : List Str), vs = [.ref x, .ref p] ∧ H x = some (.ins C dx []) ∧ SqL K H p (z.map V.str) ∧ z.length ≤ 1000 ∧ (∀ r ∈ z, r.length ≤ 1000) ∧
  (viewB z = false → ∀ H', Same H H' → E (.ref B) none H') ∧ (viewB z = true → ∀ H' (l : Addr) (z0 : Str) (zs : List Str), z = z0 :: zs → H l = none → l ≠ x → H' l = some (.lst (z.map V.str)) → H' x = some (.ins C dx (fView l z.length z0.length)) → (∀ b o, H b = some o → b ≠ x → H' b = some o) → Q .non H')
theorem sq_upd {K : PySem.W.Frag} {H : Hp} {p x C dx : Addr} {xs : List V} {fs : List (Str × V)} {o : HO} (h : SqL K H p xs) (hx : H x = some (.ins C dx fs)) : SqL K (upd H x o) p xs := by
  rcases h with (h | ⟨ob, h⟩) | h
  · exact .inl (.inl (by rw [upd_ne (ne_of h hx (by intro z; cases z))]; exact h))
  · exact .inl (.inr ⟨ob, by rw [upd_ne (ne_of h hx (by intro z; cases z))]; exact h⟩)
  · exact .inr h
theorem few2 {a b : Str} {u v : V} : (putF a v (putF b u [])).length < 1000 := by
  have h1 := length_putF a v (putF b u [])
  have h2 := length_putF b u []
  simp only [List.length_nil] at h2
  omega
theorem ok_init {f : Addr} {fd : FuncData} (F : Fun K "__init__" "View.__init__" s_View___init__ f fd) (T : Txt K mg Z) (D_is_view : Df P w K mg base 2 "is_view" ["rows"] (spView K)) : FnOk P w K mg base (CXE P w) 3 f fd ["self", "rows"] (spInit K Z.View Z.BadView) := by
  refine F.rokE sc_View___init__ (fun vs H Q E h => ?_) (fun cdv A outer s H vs Q E hr h => ?_)
  · obtain ⟨x, dx, p, z, rfl, _⟩ := h; rfl
  · obtain ⟨x, dx, p, z, rfl, hx, hS, hn, hz, hE, hq⟩ := h
    have hd := hd_of hr
    refine ⟨_, (rss_cons (rs_if (RT.nox (rt_not (rt_val (r_def D_is_view hr rfl passE (ra_cons (rv 1) ra_nil))))) (rss_one (rs_raise T.x_BadView rfl T.c_BadView hd (ra_cons r_str ra_nil))) rss_nil) (rss_cons (RS.nox (rs_fld (rv 0) (r_callTy (k_list (K := K)) rfl T.b_list bt_list (ra_cons (rv 1) ra_nil)))) (rss_cons (RS.nox (rs_fld (rv 0) (r_callB (k_len (K := K)) rfl T.b_len bt_len (ra_cons (rv 1) ra_nil)))) (rss_one (RS.nox (rs_fld (rv 0) (r_callB (k_len (K := K)) rfl T.b_len bt_len (ra_cons (r_ix (k_ix (K := K)) (rv 1) r_int) ra_nil)))))))), ?_⟩
    refine ⟨_, rfl, p, z, rfl, hS, hn, hz, fun H1 s1 => ⟨_, rfl, ?_⟩⟩
    cases hv : viewB z with
    | false => exact iteT ⟨by decide, hE hv H1 s1⟩
    | true =>
      refine iteF ?_
      cases z with
      | nil => exact absurd (show false = true from hv) (by decide)
      | cons z0 zs =>
        have z0' := hz z0 List.mem_cons_self
        refine ⟨_, rfl, p, _, rfl, .inl (s1.seq hS), fun l hl => ?_⟩
        have nlx : l ≠ x := (ne_of_none (s1 x _ hx) hl).symm
        have h1 : (upd H1 l (.lst ((z0 :: zs).map V.str))) x = some (.ins Z.View dx []) := by rw [upd_ne nlx.symm]; exact s1 x _ hx
        have S1 : SqL K (upd H1 l (.lst ((z0 :: zs).map V.str))) p ((z0 :: zs).map V.str) := (s1.and hl).seq hS
        refine ⟨_, rfl, x, Z.View, dx, _, rfl, h1, T.cl_View, T.n_View_rows, (by show 0 < 1000; decide), ?_⟩
        have S2 := sq_upd (o := .ins Z.View dx (putF "rows" (.ref l) [])) S1 h1
        refine ⟨_, rfl, .inl ⟨p, _, rfl, .inl S2, _, rfl, x, Z.View, dx, _, rfl, upd_same, T.cl_View, T.n_View_height, (by show 1 < 1000; decide), ?_⟩⟩
        have S3 := sq_upd (o := .ins Z.View dx (putF "height" (.int ((z0 :: zs).map V.str).length) (putF "rows" (.ref l) []))) S2 upd_same
        refine ⟨_, rfl, .inl ⟨p, _, _, _, rfl, rfl, S3, atI_zero, .inr ⟨z0, rfl, small (by omega), _, rfl, x, Z.View, dx, _, rfl, upd_same, T.cl_View, T.n_View_width, few2, ?_⟩⟩⟩
        refine hq hv _ l z0 zs rfl (s1.free hl) nlx ?_ ?_ (fun b o e hb => ?_)
        · rw [upd_ne nlx, upd_ne nlx, upd_ne nlx, upd_same]
        · rw [upd_same]; rw [List.length_map]; rfl
        · rw [upd_ne hb, upd_ne hb, upd_ne hb]
          exact (s1.and hl) b o e
end
end My
set_option Elab.async false
set_option linter.all false
set_option maxRecDepth 100000
set_option maxHeartbeats 1000000
namespace My
open PySem L2
def spHas (K : PySem.W.Frag) (C : Addr) : Sp := fun vs H Q _ => ∃ (x : Addr) (v : V) (zs : List Str) (w : Nat) (c : Cell), vs = [.ref x, v] ∧ ViewAt C H x zs w ∧ Den K H v (cellD c) ∧ Q (.bl (decide (inF zs.length w c))) H
def spIsClosed (K : PySem.W.Frag) (C : Addr) : Sp := fun vs H Q _ => ∃ (x : Addr) (v : V) (zs : List Str) (w : Nat) (c : Cell), vs = [.ref x, v] ∧ ViewAt C H x zs w ∧ Den K H v (cellD c) ∧ Q (.bl (closedB zs w c)) H
def spPNear (K : PySem.W.Frag) (C NC : Addr) : Sp := fun vs H Q E => ∃ (x : Addr) (v : V) (zs : List Str) (w : Nat) (c : Cell), vs = [.ref x, v] ∧ ViewAt C H x zs w ∧ Den K H v (cellD c) ∧ (inF zs.length w c → ∀ q H', Fr K H H' q ((lnear zs.length w c).map cellD) → Q (.ref q) H') ∧ (¬ inF zs.length w c → ∀ H', Same H H' → E (.ref NC) none H')
section
variable {P : Program} {w : World} {K : PySem.W.Frag} {mg : Str → Option Value} {base : Heap} {Z : Adr}
theorem ok_has {f : Addr} {fd : FuncData} (F : Fun K "has_cell" "has_cell" s_has_cell f fd) (T : Txt K mg Z) : FnOk P w K mg base (CXE P w) 1 f fd ["view", "cell"] (spHas K Z.View) := by
  refine F.rok sc_has_cell (fun vs H Q E h => ?_) (fun cdv A outer s H vs Q E hr h => ?_)
  · obtain ⟨x, v, zs, w, c, rfl, _⟩ := h; rfl
  · obtain ⟨x, v, zs, w, c, rfl, vt, dv, hq⟩ := h
    obtain ⟨dx, l, hx, hl⟩ := vt.ob
    refine ⟨_, (rss_one (rs_ret (r_and (r_chain op_le op_lt r_int (r_ix (k_ix (K := K)) (rv 1) r_int) (kr_fld (K := K) (rv 0))) (r_one (r_chain op_le op_lt r_int (r_ix (k_ix (K := K)) (rv 1) r_int) (kr_fld (K := K) (rv 0))))))), ?_⟩
    refine ⟨_, rfl, rd_fst dv ⟨_, _, rfl, rfl, _, rfl, ?_⟩⟩
    refine chain_ltV (m := (zs.length : Int)) (fun Q' q => ⟨_, rfl, x, Z.View, dx, _, _, rfl, hx, T.cl_View, T.n_View_height, f_height _ _ _, q⟩) ⟨_, rfl, ?_⟩
    have fin : ∀ b : Bool, b = decide (inF zs.length w c) → Q (.bl b) H := fun b e => by rw [e]; exact hq
    refine ite_b (fun h1 => ?_) (fun h1 => fin _ (decide_eq_false fun z => by rw [decide_eq_true z.1] at h1; cases h1).symm)
    refine ⟨_, rfl, rd_snd dv ⟨_, _, rfl, rfl, _, rfl, ?_⟩⟩
    refine chain_ltV (m := (w : Int)) (fun Q' q => ⟨_, rfl, x, Z.View, dx, _, _, rfl, hx, T.cl_View, T.n_View_width, f_width _ _ _, q⟩) (fin _ ?_)
    have h1' := of_decide_eq_true h1
    by_cases h2 : 0 ≤ c.2 ∧ c.2 < (w : Int)
    · rw [decide_eq_true h2, decide_eq_true (show inF zs.length w c from ⟨h1', h2⟩)]
    · rw [decide_eq_false h2, decide_eq_false (fun z : inF zs.length w c => h2 z.2)]
theorem ok_isclosed {f : Addr} {fd : FuncData} (F : Fun K "is_closed" "is_closed" s_is_closed f fd) (T : Txt K mg Z) (D_has_cell : Df P w K mg base 1 "has_cell" ["view", "cell"] (spHas K Z.View)) : FnOk P w K mg base (CXE P w) 2 f fd ["view", "cell"] (spIsClosed K Z.View) := by
  refine F.rok sc_is_closed (fun vs H Q E h => ?_) (fun cdv A outer s H vs Q E hr h => ?_)
  · obtain ⟨x, v, zs, w, c, rfl, _⟩ := h; rfl
  · obtain ⟨x, v, zs, w, c, rfl, vt, dv, hq⟩ := h
    obtain ⟨dx, l, hx, hl⟩ := vt.ob
    have hu := hu60 hr
    refine ⟨_, (rss_one (rs_ret (r_and (r_def D_has_cell hr rfl passE (ra_cons (rv 0) (ra_cons (rv 1) ra_nil))) (r_one (r_cmp (op_eq.or (k_eqD (K := K) hu)) (r_ix (k_ix (K := K)) (r_ix (k_ix (K := K)) (kr_fld (K := K) (rv 0)) (r_ix (k_ix (K := K)) (rv 1) r_int)) (r_ix (k_ix (K := K)) (rv 1) r_int)) (r_gstr T.g_CLOSED_SIGN rfl) (nomark _)))))), ?_⟩
    refine ⟨_, rfl, _, rfl, x, v, zs, w, c, rfl, vt, dv, _, rfl, ?_⟩
    unfold closedB at hq
    refine ite_b (fun h1 => ?_) (fun h1 => ?_)
    · rw [h1, Bool.true_and] at hq
      obtain ⟨⟨a1, a2⟩, ⟨a3, a4⟩⟩ := of_decide_eq_true h1
      have e1 : c.1 = ((c.1.toNat : Nat) : Int) := by omega
      have e2 : c.2 = ((c.2.toNat : Nat) : Int) := by omega
      have i1 : c.1.toNat < zs.length := by omega
      refine ⟨_, rfl, x, Z.View, dx, _, _, rfl, hx, T.cl_View, T.n_View_rows, f_rows _ _ _, _, rfl, rd_fst dv ?_⟩
      rw [e1]
      refine rd_row (SqL.of hl) i1 ⟨_, rfl, rd_snd dv ?_⟩
      rw [e2]
      refine rd_sign (SqL.of hl) vt.vw.toRect i1 (by omega) (.inl ⟨rfl, ?_⟩)
      have es : decide (V.str ⟨#[codeAt zs (c.1.toNat, c.2.toNat)]⟩ = V.str "#") = decide (codeAt zs (c.1.toNat, c.2.toNat) = 35) := by
        congr 1
        apply propext
        have eh : ("#" : Str) = ⟨#[35]⟩ := by decide +kernel
        rw [eh]
        constructor
        · intro z; simpa using z
        · intro z; rw [z]
      rw [es]; exact hq
    · rw [h1, Bool.false_and] at hq
      exact hq
end
end My
set_option Elab.async false
set_option linter.all false
set_option maxRecDepth 100000
set_option maxHeartbeats 1000000
namespace My
open PySem L2
theorem dec_ne (a b : Cell) : (!eqD (cellD a) (cellD b)) = !decide (a = b) := by rw [eqD_cell]
theorem max_ite (a : Int) : (if (0 : Int) > a then (0 : Int) else a) = max a 0 := by by_cases h : (0 : Int) > a <;> simp only [h, if_true, if_false] <;> omega
theorem min_ite (a b : Int) : (if b < a then b else a) = min a b := by by_cases h : b < a <;> simp only [h, if_true, if_false] <;> omega
theorem max_bd {a : Int} (h : a ≤ 6) : 0 ≤ max a 0 ∧ max a 0 ≤ 6 := ⟨Int.le_max_right _ _, Int.max_le.mpr ⟨h, by decide⟩⟩
theorem min_bd {a b : Int} (h : 0 ≤ a) (h0 : 0 ≤ b) (h2 : b ≤ 6) : 0 ≤ min a b ∧ min a b ≤ 6 := ⟨Int.le_min.mpr ⟨h, h0⟩, Int.le_trans (Int.min_le_right _ _) h2⟩
theorem rng_ok {i j : Int} (a : 0 ≤ i ∧ i ≤ 6) (b : 0 ≤ j ∧ j ≤ 6) : -(2 ^ 62) ≤ i ∧ i < 2 ^ 62 ∧ -(2 ^ 62) ≤ j ∧ j < 2 ^ 62 := ⟨by omega, by omega, by omega, by omega⟩
theorem cnt_bd {a b : Int} {i : Nat} (ha : 0 ≤ a) (hb : b ≤ 6) (h : i < (b - a).toNat) : i < 6 := by omega
theorem cnt_le {a b : Int} (ha : 0 ≤ a) (hb : b ≤ 6) : (b - a).toNat ≤ 6 := by omega
theorem step6 {a b n : Nat} (h1 : a ≤ n * 6) (h2 : b ≤ 6) : a + b ≤ (n + 1) * 6 := by omega
theorem ll_bd {a b i j : Nat} (h1 : a ≤ i * 6) (h2 : b ≤ j) (hi : i < 6) (hj : j < 6) : a + b ≤ 100 := by omega
section
variable {P : Program} {w : World} {K : PySem.W.Frag} {mg : Str → Option Value} {base : Heap} {Z : Adr}
theorem ok_pnear {f : Addr} {fd : FuncData} (F : Fun K "near" "near" s_near f fd) (T : Txt K mg Z) (D_has_cell : Df P w K mg base 1 "has_cell" ["view", "cell"] (spHas K Z.View)) : FnOk P w K mg base (CXE P w) 2 f fd ["view", "cell"] (spPNear K Z.View Z.NoCell) := by
  refine F.rokE sc_near (fun vs H Q E h => ?_) (fun cdv A outer s H vs Q E hr h => ?_)
  · obtain ⟨x, v, zs, w, c, rfl, _⟩ := h; rfl
  · obtain ⟨x, v, zs, w, c, rfl, vt, dv, hq, hE⟩ := h
    have hu := hu60 hr
    have hd := hd_of hr
    have z6 := vt.vw.le
    have w6 := vt.vw.w6
    refine ⟨_, (rss_cons (rs_if (RT.nox (rt_not (rt_val (r_def D_has_cell hr rfl passE (ra_cons (rv 0) (ra_cons (rv 1) ra_nil)))))) (rss_one (rs_raise T.x_NoCell rfl T.c_NoCell hd (ra_cons r_str ra_nil))) rss_nil) (rss_cons (RS.nox (rs_set (i := 2) sc_near.nd rfl (by first | exact Or.inl rfl | exact Or.inr rfl) (r_lst ra_nil))) (rss_cons (RS.nox (rs_for PassesOwn.never rfl (ri_range2 rfl T.b_range (ra_cons (r_callB (call_max2 rfl) rfl T.b_max bt_max (ra_cons (r_op op_sub (r_ix (k_ix (K := K)) (rv 1) r_int) r_int) (ra_cons r_int ra_nil))) (ra_cons (r_callB (call_min2 rfl) rfl T.b_min bt_min (ra_cons (r_op op_addG (r_ix (k_ix (K := K)) (rv 1) r_int) r_int) (ra_cons (kr_fld (K := K) (rv 0)) ra_nil))) ra_nil))) (rg_name (i := 3) sc_near.nd rfl (by first | exact Or.inl rfl | exact Or.inr rfl)) (rss_one (rs_for PassesOwn.never rfl (ri_range2 rfl T.b_range (ra_cons (r_callB (call_max2 rfl) rfl T.b_max bt_max (ra_cons (r_op op_sub (r_ix (k_ix (K := K)) (rv 1) r_int) r_int) (ra_cons r_int ra_nil))) (ra_cons (r_callB (call_min2 rfl) rfl T.b_min bt_min (ra_cons (r_op op_addG (r_ix (k_ix (K := K)) (rv 1) r_int) r_int) (ra_cons (kr_fld (K := K) (rv 0)) ra_nil))) ra_nil))) (rg_name (i := 4) sc_near.nd rfl (by first | exact Or.inl rfl | exact Or.inr rfl)) (rss_one (rs_if (rt_cmp (op_ne.or (k_neD (K := K) hu)) (r_tup (ra_cons (rv 3) (ra_cons (rv 4) ra_nil))) (rv 1) (nomark _)) (rss_one (rs_expr (kr_bm (K := K) PySem.F.plainAttrs_list PySem.F.slot_list_append PySem.F.type_list_append mt_append (rv 2) (ra_cons (r_tup (ra_cons (rv 3) (ra_cons (rv 4) ra_nil))) ra_nil)))) rss_nil)))))) (rss_one (RS.nox (rs_ret (rv 2))))))), ?_⟩
    refine seq_mid (fun σ H1 => inF zs.length w c ∧ Same H H1 ∧ σ = [some (.ref x), some v, none, none, none]) (fun R hR => ?_) ?_
    · refine ⟨_, rfl, _, rfl, x, v, zs, w, c, rfl, vt, dv, _, rfl, ?_⟩
      refine ite_b (fun h1 => ⟨by decide, hE (of_decide_eq_false (by simpa only [Bool.not_eq_true'] using h1)) H (Same.refl _)⟩) (fun h1 => hR _ _ ⟨of_decide_eq_true (by simpa only [Bool.not_eq_false'] using h1), Same.refl _, rfl⟩)
    rintro σ H1 ⟨hin, s1, rfl⟩
    have hq' := hq hin
    rw [← pnear_eq z6 w6 hin] at hq'
    obtain ⟨⟨c1, c2⟩, ⟨c3, c4⟩⟩ := id hin
    refine seq_mid (fun σ H2 => ∃ q, H q = none ∧ Same H H2 ∧ H2 q = some (.lst []) ∧ σ = [some (.ref x), some v, some (.ref q), none, none]) (fun R hR => ?_) ?_
    · exact ⟨by decide, fun q hq' => hR _ _ ⟨q, s1.free hq', s1.and hq', upd_same, rfl⟩⟩
    rintro σ H2 ⟨q, nq, s2, hq2, rfl⟩
    have m1 : (if (0 : Int) > c.1 - 1 then (0 : Int) else c.1 - 1) = max (c.1 - 1) 0 := max_ite _
    have m2 : (if (zs.length : Int) < c.1 + 2 then (zs.length : Int) else c.1 + 2) = min (c.1 + 2) zs.length := min_ite _ _
    have m3 : (if (0 : Int) > c.2 - 1 then (0 : Int) else c.2 - 1) = max (c.2 - 1) 0 := max_ite _
    have m4 : (if (w : Int) < c.2 + 2 then (w : Int) else c.2 + 2) = min (c.2 + 2) w := min_ite _ _
    have bx1 := max_bd (a := c.1 - 1) (by omega)
    have bx2 := max_bd (a := c.2 - 1) (by omega)
    have bn1 := min_bd (a := c.1 + 2) (b := (zs.length : Int)) (by omega) (by omega) (by omega)
    have bn2 := min_bd (a := c.2 + 2) (b := (w : Int)) (by omega) (by omega) (by omega)
    refine seq_mid (fun σ H3 => ∃ (v3 v4 : Option V), Fr K H H3 q ((pnearL zs.length w c).map cellD) ∧ σ = [some (.ref x), some v, some (.ref q), v3, v4]) (fun R hR => ?_) ?_
    · obtain ⟨dx, l, hx, hl⟩ := (vt.mono s2).ob
      refine ⟨_, rfl, rd_fst (dv.mono s2) ⟨_, _, rfl, rfl, _, _, rfl, ?_⟩⟩
      refine ⟨_, rfl, rd_fst (dv.mono s2) ⟨_, rfl, x, Z.View, dx, _, _, rfl, hx, T.cl_View, T.n_View_height, f_height _ _ _, _, _, rfl, _, _, rfl, ?_⟩⟩
      rw [m1, m2]
      refine ⟨rng_ok bx1 bn1, ?_⟩
      refine for_range (lo := max (c.1 - 1) 0) (n := (min (c.1 + 2) (zs.length : Int) - max (c.1 - 1) 0).toNat) (fun i σ H3 => ∃ (v3 v4 : Option V), Same H H3 ∧ Ls K H3 q ((pnearN w c (max (c.1 - 1) 0) i).map cellD) ∧ σ = [some (.ref x), some v, some (.ref q), v3, v4]) ⟨none, none, s2, ⟨[], hq2, .nil⟩, rfl⟩ (fun i σ H3 hi hh => ?_) (fun σ H3 hh => ?_)
      · obtain ⟨v3, v4, g1, g2, rfl⟩ := hh
        obtain ⟨dx, l, hx, hl⟩ := (vt.mono g1).ob
        refine ⟨_, rfl, rd_snd (dv.mono g1) ⟨_, _, rfl, rfl, _, _, rfl, ?_⟩⟩
        refine ⟨_, rfl, rd_snd (dv.mono g1) ⟨_, rfl, x, Z.View, dx, _, _, rfl, hx, T.cl_View, T.n_View_width, f_width _ _ _, _, _, rfl, _, _, rfl, ?_⟩⟩
        rw [m3, m4]
        refine ⟨rng_ok bx2 bn2, ?_⟩
        have base0 : pnearN w c (max (c.1 - 1) 0) (i + 1) = pnearN w c (max (c.1 - 1) 0) i ++ nearRow w c (max (c.1 - 1) 0 + (i : Int)) := by
          unfold pnearN
          rw [List.range_succ, List.flatMap_append]; simp
        have pl : ∀ n, (pnearN w c (max (c.1 - 1) 0) n).length ≤ n * 6 := by
          intro n
          induction n with
          | zero => simp [pnearN]
          | succ n ih =>
            unfold pnearN at ih ⊢
            rw [List.range_succ, List.flatMap_append, List.length_append]
            have : ([n].flatMap fun k : Nat => nearRow w c (max (c.1 - 1) 0 + (k : Int))).length ≤ 6 := by
              simp only [List.flatMap_cons, List.flatMap_nil, List.append_nil]
              unfold nearRow
              refine Nat.le_trans (List.length_filter_le _ _) ?_
              rw [List.length_map, List.length_range]; exact cnt_le bx2.1 bn2.2
            exact step6 ih this
        refine for_range (lo := max (c.2 - 1) 0) (n := (min (c.2 + 2) (w : Int) - max (c.2 - 1) 0).toNat) (fun j σ H3 => ∃ v4 : Option V, Same H H3 ∧ Ls K H3 q ((pnearN w c (max (c.1 - 1) 0) i ++ ((List.range j).map fun k : Nat => (max (c.1 - 1) 0 + (i : Int), max (c.2 - 1) 0 + (k : Int))).filter fun y => !decide (y = c)).map cellD) ∧ σ = [some (.ref x), some v, some (.ref q), some (.int (max (c.1 - 1) 0 + (i : Int))), v4])
          ⟨v4, g1, by simpa using g2, rfl⟩ (fun j σ H3 hj hh => ?_) (fun σ H3 hh => ?_)
        · obtain ⟨v4, g1, ⟨xs, ex, D⟩, rfl⟩ := hh
          have step : ∀ b : Bool, b = !decide ((max (c.1 - 1) 0 + (i : Int), max (c.2 - 1) 0 + (j : Int)) = c) → (((List.range (j + 1)).map fun k : Nat => (max (c.1 - 1) 0 + (i : Int), max (c.2 - 1) 0 + (k : Int))).filter fun y => !decide (y = c)) = (((List.range j).map fun k : Nat => (max (c.1 - 1) 0 + (i : Int), max (c.2 - 1) 0 + (k : Int))).filter fun y => !decide (y = c)) ++ (if b = true then [(max (c.1 - 1) 0 + (i : Int), max (c.2 - 1) 0 + (j : Int))] else []) := by
            intro b hb
            rw [List.range_succ, List.map_append, List.filter_append, List.map_cons, List.map_nil, List.filter_cons, List.filter_nil, ← hb]
          have ll : xs.length ≤ 100 := by
            rw [D.length, List.length_map, List.length_append]
            have := pl i
            have h2 : (((List.range j).map fun k : Nat => (max (c.1 - 1) 0 + (i : Int), max (c.2 - 1) 0 + (k : Int))).filter fun y => !decide (y = c)).length ≤ j := Nat.le_trans (List.length_filter_le _ _) (by rw [List.length_map, List.length_range]; exact Nat.le_refl _)
            exact ll_bd this h2 (cnt_bd bx1.1 bn1.2 hi) (cnt_bd bx2.1 bn2.2 hj)
          refine ⟨_, rfl, _, rfl, sz rfl, fun t ht => ?_⟩
          have st := Same.put (o := .tup [V.int (max (c.1 - 1) 0 + (i : Int)), V.int (max (c.2 - 1) 0 + (j : Int))]) ht
          refine ⟨_, rfl, .inr ⟨cellD (max (c.1 - 1) 0 + (i : Int), max (c.2 - 1) 0 + (j : Int)), cellD c, rfl, den_cell, dv.mono (g1.trans st), rfl, dep_cell _, ?_⟩⟩
          refine ⟨_, rfl, ?_⟩
          show if (!eqD _ _) = true then _ else _
          rw [dec_ne]
          refine ite_b (fun hb => ?_) (fun hb => ?_)
          · refine ⟨_, rfl, .inl ⟨rfl, _, SqL.of (st _ _ ex)⟩, _, rfl, _, rfl, sz rfl, fun t2 ht2 => ?_⟩
            have st2 := Same.put (o := .tup [V.int (max (c.1 - 1) 0 + (i : Int)), V.int (max (c.2 - 1) 0 + (j : Int))]) ht2
            have e2 := st2 _ _ (st _ _ ex)
            refine ⟨q, xs, _, rfl, rfl, e2, ltl (Nat.lt_of_le_of_lt ll (by decide)), ?_⟩
            refine ⟨_, (SameBut.refl q _).put.of (g1.trans (st.trans st2)) nq, ⟨xs ++ [.ref t2], upd_same, ?_⟩, rfl⟩
            rw [step true hb.symm, ← List.append_assoc, List.map_append]
            exact ((SameBut.refl q _).put.cells e2 (D.mono (st.trans st2))).append (.cons ((SameBut.refl q _).put.cell e2 den_cell) .nil)
          · refine ⟨_, g1.trans st, ⟨xs, st _ _ ex, ?_⟩, rfl⟩
            rw [step false hb.symm]
            simpa using D.mono st
        · obtain ⟨v4, g1, g2, rfl⟩ := hh
          exact ⟨_, _, g1, by rw [base0]; exact g2, rfl⟩
      · obtain ⟨v3, v4, g1, g2, rfl⟩ := hh
        exact hR _ _ ⟨v3, v4, ⟨g1, nq, g2⟩, rfl⟩
    rintro σ H3 ⟨v3, v4, fr, rfl⟩
    exact ⟨_, rfl, hq' q H3 fr⟩
end
end My
set_option Elab.async false
set_option linter.all false
set_option maxRecDepth 100000
set_option maxHeartbeats 1000000
namespace My
open PySem L2
theorem deps_cells : ∀ cs : List Cell, depDs (cs.map cellD) ≤ 1
  | [] => Nat.le_of_ble_eq_true rfl
  | c :: cs => by
    show max (depD (cellD c)) (depDs (cs.map cellD)) ≤ 1
    exact Nat.max_le.mpr ⟨Nat.le_of_ble_eq_true rfl, deps_cells cs⟩
theorem dep_cells (cs : List Cell) : depD (.lst (cs.map cellD)) ≤ 50 := by
  show depDs (cs.map cellD) + 1 ≤ 50
  have := deps_cells cs
  omega
theorem dep_strs : ∀ ws : List Str, depDs (ws.map Dt.str) = 0
  | [] => rfl
  | w :: ws => by rw [List.map_cons]; unfold depDs; rw [dep_strs ws]; rfl
theorem dep_lst (ws : List Str) : depD (.lst (ws.map Dt.str)) ≤ 50 := by unfold depD; rw [dep_strs]; decide
theorem den_txt {K : PySem.W.Frag} {H : Hp} {p : Addr} {ws : List Str} (h : H p = some (.lst (ws.map V.str))) : Den K H (.ref p) (.lst (ws.map Dt.str)) := .lst (SqL.of h) (Dens.strs ws)
end My
set_option Elab.async false
set_option linter.all false
set_option maxRecDepth 100000
set_option maxHeartbeats 1000000
namespace My
open PySem L2
theorem dens_snoc {K : PySem.W.Frag} {H : Hp} {m : Cell} : ∀ {wt : List Cell} {xs : List V}, Dens K H xs ((wt ++ [m]).map cellD) → ∃ ys u, xs = ys ++ [u] ∧ Dens K H ys (wt.map cellD) ∧ Den K H u (cellD m)
  | [], xs, D => by
    cases D with
    | cons h t =>
      cases t
      exact ⟨[], _, rfl, .nil, h⟩
  | c :: wt, xs, D => by
    cases D with
    | cons h t =>
      obtain ⟨ys, u, rfl, a, b⟩ := dens_snoc (wt := wt) t
      exact ⟨_ :: ys, u, rfl, .cons h a, b⟩
theorem asc_eq {a b : List Cell} (h1 : a.Pairwise cellLt) (h2 : b.Pairwise cellLt) (hm : ∀ y, y ∈ a ↔ y ∈ b) : a = b := by
  have pm : a.Perm b := (List.perm_ext_iff_of_nodup (strict_nodup h1) (strict_nodup h2)).mpr hm
  refine List.Perm.eq_of_pairwise (le := cellLt) (fun x y _ _ h1 h2 => ?_) h1 h2 pm
  unfold cellLt at h1 h2; omega
def spLaying (K : PySem.W.Frag) (C : Addr) : Sp := fun vs H Q _ => ∃ (x l : Addr) (zs : List Str) (w : Nat) (cs : List Cell), vs = [.ref x, .ref l] ∧ ViewAt C H x zs w ∧ Ls K H l (cs.map cellD) ∧ cs.length ≤ 1000 ∧ ∀ H', Same H H' → Q (.bl (layB zs w cs)) H'
def spStones (K : PySem.W.Frag) (C : Addr) : Sp := fun vs H Q _ => ∃ (x l : Addr) (v : V) (zs : List Str) (w : Nat) (c : Cell) (cs : List Cell), vs = [.ref x, v, .ref l] ∧ ViewAt C H x zs w ∧ Den K H v (cellD c) ∧ inF zs.length w c ∧ Ls K H l (cs.map cellD) ∧ ∀ H', Same H H' → Q (.int (stonesN zs.length w c cs)) H'
section
variable {P : Program} {w : World} {K : PySem.W.Frag} {mg : Str → Option Value} {base : Heap} {Z : Adr}
theorem ok_islaying {f : Addr} {fd : FuncData} (F : Fun K "is_laying" "is_laying" s_is_laying f fd) (T : Txt K mg Z) (D_is_closed : Df P w K mg base 2 "is_closed" ["view", "cell"] (spIsClosed K Z.View)) : FnOk P w K mg base (CXE P w) 3 f fd ["view", "laying"] (spLaying K Z.View) := by
  refine F.rok sc_is_laying (fun vs H Q E h => ?_) (fun cdv A outer s H vs Q E hr h => ?_)
  · obtain ⟨x, l, zs, w, cs, rfl, _⟩ := h; rfl
  · obtain ⟨x, l, zs, w, cs, rfl, vt, ⟨us, eu, D⟩, hc, hq⟩ := h
    have hu := hu60 hr
    have lu : us.length = cs.length := by rw [D.length, List.length_map]
    refine ⟨_, (rss_cons (rs_for PassesOwn.never rfl (ri_range2 rfl T.b_range (ra_cons r_int (ra_cons (r_callB (k_len (K := K)) rfl T.b_len bt_len (ra_cons (rv 1) ra_nil)) ra_nil))) (rg_name (i := 2) sc_is_laying.nd rfl (by first | exact Or.inl rfl | exact Or.inr rfl)) (rss_one (rs_if (rt_cmp (k_geC (K := K) hu) (r_ix (k_ix (K := K)) (rv 1) (r_op op_sub (rv 2) r_int)) (r_ix (k_ix (K := K)) (rv 1) (rv 2)) (nomark _)) (rss_one (rs_ret r_bl)) rss_nil))) (rss_one (rs_ret (r_callB (k_all (K := K) rfl) rfl T.b_all bt_all (ra_cons (r_comp (by rfl) rfl (kri_list (K := K) (rv 1)) (fun _ _ _ => rif_nil) (fun _ _ _ => (r_def D_is_closed hr rfl passE (ra_cons (rv 1) (ra_cons (rv 0) ra_nil))))) ra_nil))))), ?_⟩
    refine seq_mid (fun σ H1 => ∃ v2 : Option V, H1 = H ∧ ascB cs = true ∧ σ = [some (.ref x), some (.ref l), v2]) (fun R hR => ?_) ?_
    · refine ⟨_, rfl, .inl ⟨l, _, rfl, .inl (SqL.of eu), _, _, rfl, ?_⟩⟩
      refine ⟨⟨by omega, by omega, by omega, by omega⟩, ?_⟩
      refine for_range (lo := 1) (n := ((us.length : Int) - 1).toNat) (fun i σ H1 => ∃ v2 : Option V, H1 = H ∧ (∀ j, j < i → cltB (cs.getD j (0, 0)) (cs.getD (j + 1) (0, 0)) = true) ∧ σ = [some (.ref x), some (.ref l), v2]) ⟨none, rfl, fun j hj => absurd hj (Nat.not_lt_zero _), rfl⟩ (fun i σ H1 hi hh => ?_) (fun σ H1 hh => ?_)
      · obtain ⟨v2, rfl, g, rfl⟩ := hh
        have b1 : i < us.length := by omega
        have b2 : i + 1 < us.length := by omega
        have e1 : us[i]? = some us[i] := by simp [b1]
        have e2 : us[i + 1]? = some us[i + 1] := by simp [b2]
        obtain ⟨d1, f1, D1⟩ := D.get e1
        obtain ⟨d2, f2, D2⟩ := D.get e2
        rw [List.getElem?_map] at f1 f2
        obtain ⟨c1, g1, rfl⟩ := Option.map_eq_some_iff.mp f1
        obtain ⟨c2, g2, rfl⟩ := Option.map_eq_some_iff.mp f2
        have a1 : atI us (1 + (i : Int) - 1) = some us[i] := by
          have : (1 + (i : Int) - 1) = ((i : Nat) : Int) := by omega
          rw [this]; exact atI_nat e1
        have a2 : atI us (1 + (i : Int)) = some us[i + 1] := by
          have : (1 + (i : Int)) = ((i + 1 : Nat) : Int) := by omega
          rw [this]; exact atI_nat e2
        have k1 : cs.getD i (0, 0) = c1 := by rw [List.getD_eq_getElem?_getD, g1]; rfl
        have k2 : cs.getD (i + 1) (0, 0) = c2 := by rw [List.getD_eq_getElem?_getD, g2]; rfl
        refine ⟨_, rfl, _, rfl, _, _, rfl, rfl, .inl ⟨l, _, _, _, rfl, rfl, SqL.of eu, a1, ?_⟩⟩
        refine ⟨_, rfl, _, rfl, .inl ⟨l, _, _, _, rfl, rfl, SqL.of eu, a2, ?_⟩⟩
        refine ⟨c1, c2, D1, D2, _, rfl, ?_⟩
        refine ite_b (fun h1 => ?_) (fun h1 => ?_)
        · have : layB zs w cs = false := by
            unfold layB
            have : ascB cs = false := by
              cases e : ascB cs
              · rfl
              · unfold ascB at e
                rw [List.all_eq_true] at e
                have := e i (List.mem_range.mpr (by omega))
                rw [k1, k2] at this
                rw [this] at h1; cases h1
            rw [this, Bool.false_and]
          rw [← this]
          exact hq _ (Same.refl _)
        · refine ⟨_, rfl, fun j hj => ?_, rfl⟩
          by_cases hj' : j < i
          · exact g j hj'
          · have : j = i := by omega
            subst this
            rw [k1, k2]
            simpa using h1
      · obtain ⟨v2, rfl, g, rfl⟩ := hh
        refine hR _ _ ⟨v2, rfl, ?_, rfl⟩
        unfold ascB
        rw [List.all_eq_true]
        intro j hj
        rw [List.mem_range] at hj
        exact g j (by omega)
    rintro σ H1 ⟨v2, rfl, ha, rfl⟩
    have eq : layB zs w cs = cs.all (closedB zs w) := by unfold layB; rw [ha, Bool.true_and]
    rw [eq] at hq
    refine ⟨_, rfl, l, rfl, ⟨_, SqL.of eu⟩, comp_map (K := K) (xs := cs) (enc := cellD) (over_list (SqL.of eu)) D (small (by omega)) (fun c => Dt.bl (closedB zs w c)) (fun c hc' v H2 s2 d G hG => ?_) (fun ys H2 s2 D2 p hp => ?_)⟩
    · exact ⟨_, rfl, _, rfl, x, v, zs, w, c, rfl, vt.mono s2, d, hG _ _ (Same.refl _) (.bl _)⟩
    · have e : ys = (cs.map (closedB zs w)).map V.bl := by
        refine Dens.of_bls (K := K) (H := H2) ?_
        rw [List.map_map]; exact D2
      refine ⟨p, cs.map (closedB zs w), rfl, SqL.of (by rw [upd_same, e]), ?_⟩
      rw [List.all_map]
      exact hq _ (s2.and hp)
theorem ok_stones {f : Addr} {fd : FuncData} (F : Fun K "stones_near" "stones_near" s_stones_near f fd) (T : Txt K mg Z) (D_near : Df P w K mg base 2 "near" ["view", "cell"] (spPNear K Z.View Z.NoCell)) : FnOk P w K mg base (CXE P w) 3 f fd ["view", "cell", "laying"] (spStones K Z.View) := by
  refine F.rok sc_stones_near (fun vs H Q E h => ?_) (fun cdv A outer s H vs Q E hr h => ?_)
  · obtain ⟨x, l, v, zs, w, c, cs, rfl, _⟩ := h; rfl
  · obtain ⟨x, l, v, zs, w, c, cs, rfl, vt, dv, hin, hl, hq⟩ := h
    have hu := hu60 hr
    have hu' := hu61 hr
    refine ⟨_, (rss_one (rs_ret (r_callB (k_len (K := K)) rfl T.b_len bt_len (ra_cons (r_comp (by rfl) rfl (kri_list (K := K) (r_def D_near hr rfl passE (ra_cons (rv 0) (ra_cons (rv 1) ra_nil)))) (fun _ _ _ => (rif_one (rt_cmp (op_in_str.or (k_inD (K := K) hu')) (rv 0) (rv 3) (by rfl)))) (fun _ _ _ => (rv 0))) ra_nil)))), ?_⟩
    refine ⟨_, rfl, _, rfl, x, v, zs, w, c, rfl, vt, dv, fun _ q H1 fr => ?_, fun z => absurd hin z⟩
    obtain ⟨xs, ex, D⟩ := fr.ls
    refine ⟨q, rfl, ⟨_, SqL.of ex⟩, comp_den (K := K) (xs := lnear zs.length w c) (enc := cellD) (over_list (SqL.of ex)) D (small (by have := lnear_len zs.length w c; omega)) (fun y => decide (y ∈ cs)) cellD (fun y hy u H2 s2 d G hG => ?_) (fun y hy _ u H2 s2 d G hG => ⟨_, rfl, hG _ _ (Same.refl _) d⟩) (fun ys H2 s2 D2 q2 hq2 => ?_)⟩
    · exact ⟨_, rfl, _, rfl, .inr (rd_in d (hl.mono (fr.same.trans s2)).den ⟨_, rfl, hG _ (Same.refl _)⟩)⟩
    · refine .inl ⟨q2, _, rfl, .inl (SqL.of upd_same), ?_⟩
      rw [D2.length, List.length_map]
      exact hq _ (fr.same.trans (s2.and hq2))
end
end My
set_option Elab.async false
set_option linter.all false
set_option maxRecDepth 100000
set_option maxHeartbeats 1000000
namespace My
open PySem L2
theorem flat_one (z : V) : ∀ k : Nat, (List.replicate k [z]).flatten = List.replicate k z
  | 0 => rfl
  | k + 1 => by rw [List.replicate_succ, List.flatten_cons, flat_one z k, List.replicate_succ]; rfl
theorem blank_row (h w : Nat) (r : Int) (w1 : 1 ≤ w) (w6 : w ≤ 6) : rowN h w [] [] r w = repS "#" w := by
  have : ∀ k, k ≤ 6 → 1 ≤ k → rowN h w [] [] r k = repS "#" (k : Int) := by
    intro k hk h1
    have e : rowN h w [] [] r k = ⟨(List.replicate k 35).toArray⟩ := by
      unfold rowN
      have : ((List.range k).map fun c : Nat => sgnN h w [] [] (r, (c : Int))) = List.replicate k 35 := by
        rw [List.eq_replicate_iff]
        refine ⟨by rw [List.length_map, List.length_range], fun b hb => ?_⟩
        obtain ⟨c, _, rfl⟩ := List.mem_map.mp hb
        rfl
      rw [this]
    rw [e]
    have all := (by decide +kernel : ∀ k ∈ [1, 2, 3, 4, 5, 6], (⟨(List.replicate k 35).toArray⟩ : Str) = repS "#" ((k : Nat) : Int))
    refine all k ?_
    match k, h1, hk with
    | 1, _, _ => decide
    | 2, _, _ => decide
    | 3, _, _ => decide
    | 4, _, _ => decide
    | 5, _, _ => decide
    | 6, _, _ => decide
  exact this w w6 w1
theorem blank_eq (h w : Nat) (w1 : 1 ≤ w) (w6 : w ≤ 6) : (blankL h w).map V.str = List.replicate h (V.str (repS "#" w)) := by
  unfold blankL shownL
  rw [List.map_map, List.eq_replicate_iff]
  refine ⟨by rw [List.length_map, List.length_range], fun b hb => ?_⟩
  obtain ⟨r, _, rfl⟩ := List.mem_map.mp hb
  show V.str (rowN h w [] [] (r : Int) w) = _
  rw [blank_row h w r w1 w6]
theorem blank_len (h w : Nat) : (blankL h w).length = h := by
  unfold blankL shownL; rw [List.length_map, List.length_range]
theorem few3 {a b c : Str} {u v z : V} : (putF a v (putF b u (putF c z []))).length < 1000 := by
  have h1 := length_putF a v (putF b u (putF c z []))
  have h2 := length_putF b u (putF c z [])
  have h3 := length_putF c z []
  simp only [List.length_nil] at h3
  omega
theorem shown_nil (h w : Nat) (st : List Cell) : shownL h w st [] = blankL h w := by
  unfold blankL shownL
  refine List.map_congr_left fun r _ => ?_
  unfold rowN
  have : ((List.range w).map fun c : Nat => sgnN h w st [] ((r : Int), (c : Int))) = (List.range w).map fun c : Nat => sgnN h w [] [] ((r : Int), (c : Int)) := List.map_congr_left fun c _ => rfl
  rw [this]
theorem game_but {K : PySem.W.Frag} {C CV : Addr} {H H' : Hp} {p g : Addr} {h w : Nat} {st kn cs : List Cell} {us : List V} {lost : Bool} {f hd d : Addr} (G : GameAt K C CV H g h w st kn lost f hd d) (s : SameBut p H H') (hp : H p = some (.lst us)) (D : Dens K H us (cs.map cellD)) (n : p ≠ hd) : GameAt K C CV H' g h w st kn lost f hd d := by
  obtain ⟨dx, e⟩ := G.ob
  obtain ⟨dy, ly, e1, e2⟩ := G.fl.ob
  have nly : ly ≠ p := by
    intro z
    rw [z, hp] at e2
    injection e2 with e2
    injection e2 with e2
    obtain ⟨z0, zt, ez, _⟩ := G.fl.vw.toRect.head
    rw [ez] at e2
    subst e2
    cases cs with
    | nil => cases D
    | cons c cs =>
      cases D with
      | cons d0 _ =>
        obtain ⟨a, ea, _⟩ := cell_ref d0
        cases ea
  refine ⟨⟨dx, s _ _ e (ne_of hp e (by intro z; cases z)).symm⟩, ⟨⟨dy, ly, s _ _ e1 (ne_of hp e1 (by intro z; cases z)).symm, s _ _ e2 nly⟩, G.fl.vw⟩, s.ls hp n.symm G.hs, s _ _ G.dc (ne_of hp G.dc (by intro z; cases z)).symm⟩
def spGInit (K : PySem.W.Frag) (C CV BV BL : Addr) : Sp := fun vs H Q E => ∃ (x dx l : Addr) (h w : Int) (cs : List Cell), vs = [.ref x, .int h, .int w, .ref l] ∧ H x = some (.ins C dx []) ∧ Ls K H l (cs.map cellD) ∧ cs.length ≤ 1000 ∧
  (sizeB h w = false → ∀ H', Same H H' → E (.ref BV) none H') ∧
  (sizeB h w = true → layB (blankL h.toNat w.toNat) w.toNat cs = false → ∀ H', Same H H' → E (.ref BL) none H') ∧
  (sizeB h w = true → layB (blankL h.toNat w.toNat) w.toNat cs = true → ∀ H' (f hd d : Addr), H f = none → H hd = none → H d = none → hd ≠ d → f ≠ x → hd ≠ x → d ≠ x → GameAt K C CV H' x h.toNat w.toNat cs [] false f hd d → (∀ b o, H b = some o → b ≠ x → H' b = some o) → Q .non H')
theorem join_ones (g : Nat → Nat) : ∀ l : List Nat, PySem.Txt.join "" (l.map fun c : Nat => (⟨#[g c]⟩ : Str)) = ⟨(l.map g).toArray⟩ := by
  have go : ∀ (l : List Nat) (acc : Array Nat), ((l.map fun c : Nat => (⟨#[g c]⟩ : Str)).foldl (fun acc p => acc ++ ("" : Str).cps ++ p.cps) acc) = acc ++ (l.map g).toArray := by
    intro l
    induction l with
    | nil => intro acc; simp
    | cons a l ih =>
      intro acc
      rw [List.map_cons, List.foldl_cons, ih]
      have e : ("" : Str).cps = #[] := by decide +kernel
      rw [e]
      simp
  intro l
  cases l with
  | nil => rfl
  | cons a l =>
    show (⟨(l.map fun c : Nat => (⟨#[g c]⟩ : Str)).foldl (fun acc p => acc ++ ("" : Str).cps ++ p.cps) #[g a]⟩ : Str) = _
    rw [go]; simp
theorem join_row (h w : Int) (st kn : List Cell) (r : Int) (n : Nat) : PySem.Txt.join "" ((List.range n).map fun c : Nat => (⟨#[sgnN h w st kn (r, (c : Int))]⟩ : Str)) = rowN h w st kn r n := join_ones (fun c => sgnN h w st kn (r, (c : Int))) (List.range n)
def stateS (h w : Nat) (st kn : List Cell) (lost : Bool) : Str := if lost = true then "lost" else if kn.length + st.length = h * w then "won" else "on"
def spGState (K : PySem.W.Frag) (C CV : Addr) : Sp := fun vs H Q _ => ∃ (g : Addr) (h w : Nat) (st kn : List Cell) (lost : Bool) (f hd d : Addr), vs = [.ref g] ∧ GameAt K C CV H g h w st kn lost f hd d ∧ Q (.str (stateS h w st kn lost)) H
def spGView (K : PySem.W.Frag) (C CV : Addr) : Sp := fun vs H Q _ => ∃ (g : Addr) (h w : Nat) (st kn : List Cell) (lost : Bool) (f hd d : Addr), vs = [.ref g] ∧ GameAt K C CV H g h w st kn lost f hd d ∧
  ∀ x H', H x = none → Same H H' → ViewAt CV H' x (shownL h w st kn) w → Q (.ref x) H'
theorem spGState.mk {K : PySem.W.Frag} {C CV g f hd d : Addr} {H : Hp} {Q : VK} {E : XK} {h w : Nat} {st kn : List Cell} {lost : Bool} (G : GameAt K C CV H g h w st kn lost f hd d) (q : Q (.str (stateS h w st kn lost)) H) : spGState K C CV [.ref g] H Q E := ⟨g, h, w, st, kn, lost, f, hd, d, rfl, G, q⟩
theorem spGView.mk {K : PySem.W.Frag} {C CV g f hd d : Addr} {H : Hp} {Q : VK} {E : XK} {h w : Nat} {st kn : List Cell} {lost : Bool} (G : GameAt K C CV H g h w st kn lost f hd d) (q : ∀ x H', H x = none → Same H H' → ViewAt CV H' x (shownL h w st kn) w → Q (.ref x) H') : spGView K C CV [.ref g] H Q E := ⟨g, h, w, st, kn, lost, f, hd, d, rfl, G, q⟩
theorem rd_gfld {K : PySem.W.Frag} {C CV g f hd d : Addr} {H : Hp} {Q : VK} {h w : Nat} {st kn : List Cell} {lost : Bool} {m : Str} {v : V} {ta : TE} {σ : L2.St} (G : GameAt K C CV H g h w st kn lost f hd d) (ha : ∀ Q' : VK, Q' (.ref g) H → ta σ H Q') (hc : Cls K C) (hn : NoAttr K C m) (hl : (fGame f hd d lost).lookup m = some v) (q : Q v H) : tFld K ta m σ H Q :=
  ha _ (let ⟨dx, e⟩ := G.ob; ⟨g, C, dx, _, _, rfl, e, hc, hn, hl, q⟩)
theorem rd_meth0 {K : PySem.W.Frag} {C CV g f hd d : Addr} {H : Hp} {Q : VK} {E : XK} {h w : Nat} {st kn : List Cell} {lost : Bool} {m : Str} {sp : Sp} {ta : TE} {σ : L2.St} (G : GameAt K C CV H g h w st kn lost f hd d) (hm : m ≠ "lost" ∧ m ≠ "figures" ∧ m ≠ "hidden" ∧ m ≠ "field") (ha : ∀ Q' : VK, Q' (.ref g) H → ta σ H Q') (q : sp [.ref g] H Q E) : tMeth C m sp [] E ta tNil σ H Q :=
  ha _ (let ⟨dx, e⟩ := G.ob; ⟨g, dx, _, rfl, e, g_none _ _ _ _ hm.1 hm.2.1 hm.2.2.1 hm.2.2.2, q⟩)
section
variable {P : Program} {w : World} {K : PySem.W.Frag} {mg : Str → Option Value} {base : Heap} {Z : Adr}
theorem ok_ginit {f : Addr} {fd : FuncData} (F : Fun K "__init__" "Game.__init__" s_Game___init__ f fd) (T : Txt K mg Z) (D_is_size : Df P w K mg base 1 "is_size" ["height", "width"] spSize) (M_View : Md P w K mg base 3 "View" ["self", "rows"] Z.View (spInit K Z.View Z.BadView)) (D_is_laying : Df P w K mg base 3 "is_laying" ["view", "laying"] (spLaying K Z.View)) :
    FnOk P w K mg base (CXE P w) 5 f fd ["self", "height", "width", "stones"] (spGInit K Z.Game Z.View Z.BadView Z.BadLaying) := by
  refine F.rokE sc_Game___init__ (fun vs H Q E h => ?_) (fun cdv A outer s H vs Q E hr h => ?_)
  · obtain ⟨x, dx, l, h, w, cs, rfl, _⟩ := h; rfl
  · obtain ⟨x, dx, l, h, w, cs, rfl, hx, hl, hc, e1, e2, hq⟩ := h
    have hd := hd_of hr
    have hu := hu60 hr
    refine ⟨_, (rss_cons (rs_if (RT.nox (rt_not (rt_val (r_def D_is_size hr rfl passE (ra_cons (rv 1) (ra_cons (rv 2) ra_nil)))))) (rss_one (rs_raise T.x_BadView rfl T.c_BadView hd (ra_cons r_str ra_nil))) rss_nil) (rss_cons (RS.nox (rs_set (i := 4) sc_Game___init__.nd rfl (by first | exact Or.inl rfl | exact Or.inr rfl) (r_make M_View hr rfl passE (ra_cons (r_op op_mulG (r_lst (ra_cons (r_op op_mulG (r_gstr T.g_CLOSED_SIGN rfl) (rv 2)) ra_nil)) (rv 1)) ra_nil)))) (rss_cons (rs_if (RT.nox (rt_not (rt_val (r_def D_is_laying hr rfl passE (ra_cons (rv 4) (ra_cons (rv 3) ra_nil)))))) (rss_one (rs_raise T.x_BadLaying rfl T.c_BadLaying hd (ra_cons r_str ra_nil))) rss_nil) (rss_cons (RS.nox (rs_fld (rv 0) (rv 4))) (rss_cons (RS.nox (rs_fld (rv 0) (r_callTy (k_list (K := K)) rfl T.b_list bt_list (ra_cons (rv 3) ra_nil)))) (rss_cons (RS.nox (rs_fld (rv 0) r_dnewT)) (rss_one (RS.nox (rs_fld (rv 0) r_bl))))))))), ?_⟩
    refine seq_mid (fun σ H1 => sizeB h w = true ∧ H1 = H ∧ σ = [some (.ref x), some (.int h), some (.int w), some (.ref l), none]) (fun R hR => ?_) ?_
    · refine ⟨_, rfl, _, rfl, _, _, rfl, _, rfl, ?_⟩
      refine ite_b (fun h1 => ⟨by decide, e1 (by simpa only [Bool.not_eq_true'] using h1) _ (Same.refl _)⟩) (fun h1 => hR _ _ ⟨by simpa only [Bool.not_eq_false'] using h1, rfl, rfl⟩)
    rintro σ H ⟨hsz, rfl, rfl⟩
    obtain ⟨⟨h1, h6⟩, w1, w6⟩ := size_iff.mp hsz
    obtain ⟨m, rfl⟩ : ∃ m : Nat, h = (m : Int) := ⟨h.toNat, by omega⟩
    obtain ⟨n, rfl⟩ : ∃ n : Nat, w = (n : Int) := ⟨w.toNat, by omega⟩
    rw [Int.toNat_natCast, Int.toNat_natCast] at e2 hq
    have vw : Vw (blankL m n) n := shown_vw (by omega) (by omega) (by omega) (by omega)
    have bl := blank_len m n
    refine seq_mid (fun σ H1 => ∃ y : Addr, H y = none ∧ Same H H1 ∧ ViewAt Z.View H1 y (blankL m n) n ∧ σ = [some (.ref x), some (.int m), some (.int n), some (.ref l), some (.ref y)]) (fun R hR => ?_) ?_
    · refine ⟨_, rfl, by decide, by omega, by omega, sz rfl, fun p hp => ?_⟩
      refine ⟨_, rfl, _, upd_same, by omega, by omega, small (by show 1 * _ ≤ 10000; omega), fun q hq' => ?_⟩
      have eL : (List.replicate ((m : Nat) : Int).toNat [V.str (repS "#" (n : Int))]).flatten = (blankL m n).map V.str := by rw [Int.toNat_natCast, flat_one, blank_eq m n (by omega) (by omega)]
      rw [eL]
      have sq := (Same.put (o := .lst [V.str (repS "#" (n : Int))]) hp).and (o := .lst ((blankL m n).map V.str)) hq'
      intro y dy ny ndy ney
      have n2 : (upd (upd (upd H p (.lst [V.str (repS "#" (n : Int))])) q (.lst ((blankL m n).map V.str))) dy (.own y)) y = none := by rw [upd_ne ney.symm]; exact ny
      have s6 := (Same.put (o := .own y) ndy).and (o := .ins Z.View dy []) n2
      obtain ⟨z0, zt, ez, hz0⟩ := vw.toRect.head
      refine ⟨y, dy, q, blankL m n, rfl, upd_same, SqL.of (s6 _ _ upd_same), by omega, fun r hr' => by have := vw.len r hr'; omega, fun hv => (by rw [vw.ok] at hv; cases hv), fun _ H' lr z0' zt' e nlr nlx hlr hx' keep => ⟨rfl, ?_⟩⟩
      have e0 : z0'.length = n := vw.len z0' (by rw [e]; exact List.mem_cons_self)
      have n1 : H y = none := sq.free ny
      refine hR _ _ ⟨y, n1, fun b o hb => keep b o (s6 _ _ (sq _ _ hb)) (ne_of_none hb n1), ⟨⟨dy, lr, ?_, hlr⟩, vw⟩, rfl⟩
      rw [e0] at hx'; exact hx'
    rintro σ H1 ⟨y, ny, s1, vt, rfl⟩
    refine seq_mid (fun σ H2 => layB (blankL m n) n cs = true ∧ Same H H2 ∧ ViewAt Z.View H2 y (blankL m n) n ∧ σ = [some (.ref x), some (.int m), some (.int n), some (.ref l), some (.ref y)]) (fun R hR => ?_) ?_
    · refine ⟨_, rfl, _, rfl, y, l, _, n, cs, rfl, vt, hl.mono s1, hc, fun H2 s2 => ⟨_, rfl, ?_⟩⟩
      refine ite_b (fun h1 => ⟨by decide, e2 hsz (by simpa only [Bool.not_eq_true'] using h1) _ (s1.trans s2)⟩) (fun h1 => hR _ _ ⟨by simpa only [Bool.not_eq_false'] using h1, s1.trans s2, vt.mono s2, rfl⟩)
    rintro σ H2 ⟨hlay, s2, vt2, rfl⟩
    obtain ⟨us, eu, Du⟩ := hl.mono s2
    have hx2 := s2 _ _ hx
    obtain ⟨dy, ly, hy2, hly2⟩ := vt2.ob
    have nyx : y ≠ x := (ne_of_none hx ny).symm
    have nlx : l ≠ x := ne_of eu hx2 (by intro z; cases z)
    have nlyx : ly ≠ x := ne_of hly2 hx2 (by intro z; cases z)
    refine ⟨_, rfl, _, rfl, x, Z.Game, dx, _, rfl, hx2, T.cl_Game, T.n_Game_field, (by show 0 < 1000; decide), ?_⟩
    have eu' : (upd H2 x (.ins Z.Game dx (putF "field" (.ref y) []))) l = some (.lst us) := by rw [upd_ne nlx]; exact eu
    refine ⟨_, rfl, l, _, rfl, .inl (SqL.of eu'), fun hd' nhd => ?_⟩
    have nhx : hd' ≠ x := fun z => by rw [z, upd_same] at nhd; cases nhd
    have nh2 : H2 hd' = none := by rwa [upd_ne nhx] at nhd
    refine ⟨_, rfl, x, Z.Game, dx, _, rfl, (by rw [upd_ne nhx.symm]; exact upd_same), T.cl_Game, T.n_Game_hidden, (by show 1 < 1000; decide), fun d nd => ?_⟩
    have ndx : d ≠ x := fun z => by rw [z, upd_same] at nd; cases nd
    have ndh : d ≠ hd' := fun z => by rw [z, upd_ne nhx, upd_same] at nd; cases nd
    have nd2 : H2 d = none := by rwa [upd_ne ndx, upd_ne ndh, upd_ne ndx] at nd
    refine ⟨_, rfl, x, Z.Game, dx, _, rfl, (by rw [upd_ne ndx.symm]; exact upd_same), T.cl_Game, T.n_Game_figures, few2, ?_⟩
    refine ⟨_, rfl, x, Z.Game, dx, _, rfl, upd_same, T.cl_Game, T.n_Game_lost, few3, ?_⟩
    have keep : ∀ b o, H2 b = some o → b ≠ x → (upd (upd (upd (upd (upd (upd H2 x (.ins Z.Game dx (putF "field" (.ref y) []))) hd' (.lst us)) x (.ins Z.Game dx (putF "hidden" (.ref hd') (putF "field" (.ref y) [])))) d (.dT [])) x (.ins Z.Game dx (putF "figures" (.ref d) (putF "hidden" (.ref hd') (putF "field" (.ref y) []))))) x (.ins Z.Game dx (fGame y hd' d false))) b = some o := fun b o e nb => by
      rw [upd_ne nb, upd_ne nb, upd_ne (ne_of_none e nd2), upd_ne nb, upd_ne (ne_of_none e nh2), upd_ne nb]; exact e
    have tp : Tups H2 (upd (upd (upd (upd (upd (upd H2 x (.ins Z.Game dx (putF "field" (.ref y) []))) hd' (.lst us)) x (.ins Z.Game dx (putF "hidden" (.ref hd') (putF "field" (.ref y) [])))) d (.dT [])) x (.ins Z.Game dx (putF "figures" (.ref d) (putF "hidden" (.ref hd') (putF "field" (.ref y) []))))) x (.ins Z.Game dx (fGame y hd' d false))) := fun b xs e => keep b _ e (ne_of e hx2 (by intro z; cases z))
    refine hq hsz hlay _ y hd' d ny (s2.free nh2) (s2.free nd2) ndh.symm nyx nhx ndx ⟨⟨dx, upd_same⟩, ⟨⟨dy, ly, keep _ _ hy2 nyx, keep _ _ hly2 nlyx⟩, vt2.vw⟩, ⟨us, ?_, tp.cells Du⟩, ?_⟩ (fun b o e nb => keep b o (s2 _ _ e) nb)
    · rw [upd_ne nhx, upd_ne nhx, upd_ne ndh.symm, upd_ne nhx, upd_same]
    · rw [upd_ne ndx, upd_ne ndx, upd_same]; rfl
theorem ok_gstate {f : Addr} {fd : FuncData} (F : Fun K "state" "Game.state" s_Game_state f fd) (T : Txt K mg Z) : FnOk P w K mg base (CXE P w) 1 f fd ["self"] (spGState K Z.Game Z.View) := by
  refine F.rok sc_Game_state (fun vs H Q E h => ?_) (fun cdv A outer s H vs Q E hr h => ?_)
  · obtain ⟨g, h, w, st, kn, lost, f, hd, d, rfl, _⟩ := h; rfl
  · obtain ⟨g, h, w, st, kn, lost, f, hd, d, rfl, G, hq⟩ := h
    have hu := hu60 hr
    obtain ⟨dx, hg⟩ := G.ob
    obtain ⟨dy, ly, hf, hly⟩ := G.fl.ob
    obtain ⟨us, eu, Du⟩ := G.hs
    have w6 := G.fl.vw.w6
    have h6 := G.fl.vw.le
    rw [blank_len] at h6 hf
    refine ⟨_, (rss_cons (rs_if (rt_val (kr_fld (K := K) (rv 0))) (rss_one (rs_ret r_str)) rss_nil) (rss_cons (rs_if (rt_cmp (op_eq.or (k_eqD (K := K) hu)) (r_op op_addG (r_callB (k_lenE (K := K)) rfl T.b_len bt_len (ra_cons (kr_fld (K := K) (rv 0)) ra_nil)) (r_callB (k_lenE (K := K)) rfl T.b_len bt_len (ra_cons (kr_fld (K := K) (rv 0)) ra_nil))) (r_op op_mulG (kr_fld (K := K) (kr_fld (K := K) (rv 0))) (kr_fld (K := K) (kr_fld (K := K) (rv 0)))) (nomark _)) (rss_one (rs_ret r_str)) rss_nil) (rss_one (rs_ret r_str)))), ?_⟩
    refine rd_gfld G (fun _ q => ⟨_, rfl, q⟩) T.cl_Game T.n_Game_lost (g_lost _ _ _ _) ⟨_, rfl, ?_⟩
    unfold stateS at hq
    refine ite_b (fun h1 => ?_) (fun h1 => ?_)
    · rw [if_pos h1] at hq; exact hq
    rw [if_neg (by rw [h1]; decide)] at hq
    refine ⟨_, rfl, g, Z.Game, dx, _, _, rfl, hg, T.cl_Game, T.n_Game_figures, g_figures _ _ _ _, .inr ⟨d, _, rfl, G.dc, ?_⟩⟩
    refine ⟨_, rfl, g, Z.Game, dx, _, _, rfl, hg, T.cl_Game, T.n_Game_hidden, g_hidden _ _ _ _, .inl (.inl ⟨hd, _, rfl, .inl (SqL.of eu), ?_⟩)⟩
    refine ⟨_, rfl, g, Z.Game, dx, _, _, rfl, hg, T.cl_Game, T.n_Game_field, g_field _ _ _ _, f, Z.View, dy, _, _, rfl, hf, T.cl_View, T.n_View_height, f_height _ _ _, ?_⟩
    refine ⟨_, rfl, g, Z.Game, dx, _, _, rfl, hg, T.cl_Game, T.n_Game_field, g_field _ _ _ _, f, Z.View, dy, _, _, rfl, hf, T.cl_View, T.n_View_width, f_width _ _ _, .inl ⟨by omega, by omega⟩, .inl ⟨rfl, _, rfl, ?_⟩⟩
    have l1 : (figsL h w st kn).length = kn.length := by unfold figsL; rw [List.length_map]
    have l2 : us.length = st.length := by rw [Du.length, List.length_map]
    rw [dec_v, l1, l2]
    have ed : decide (((kn.length : Nat) : Int) + ((st.length : Nat) : Int) = (h : Int) * (w : Int)) = decide (kn.length + st.length = h * w) := by
      rw [decide_eq_decide]; omega
    rw [ed]
    refine ite_b (fun h2 => ?_) (fun h2 => ?_)
    · rw [if_pos (of_decide_eq_true h2)] at hq; exact hq
    · rw [if_neg (of_decide_eq_false h2)] at hq; exact hq
theorem ok_gview {f : Addr} {fd : FuncData} (F : Fun K "view" "Game.view" s_Game_view f fd) (T : Txt K mg Z) (M_View : Md P w K mg base 3 "View" ["self", "rows"] Z.View (spInit K Z.View Z.BadView)) : FnOk P w K mg base (CXE P w) 5 f fd ["self"] (spGView K Z.Game Z.View) := by
  refine F.rok sc_Game_view (fun vs H Q E h => ?_) (fun cdv A outer s H vs Q E hr h => ?_)
  · obtain ⟨g, h, w, st, kn, lost, f, hd, d, rfl, _⟩ := h; rfl
  · obtain ⟨g, h, w, st, kn, lost, f, hd, d, rfl, G, hq⟩ := h
    have hu := hu60 hr
    have w1 := G.fl.vw.w1
    have w6 := G.fl.vw.w6
    have h6 := G.fl.vw.le
    have h1 := G.fl.vw.toRect.head
    rw [blank_len] at h6
    have h1 : 1 ≤ h := by
      obtain ⟨z, zt, e, _⟩ := h1
      have := congrArg List.length e
      rw [blank_len, List.length_cons] at this; omega
    refine ⟨_, (rss_cons (rs_set (i := 1) sc_Game_view.nd rfl (by first | exact Or.inl rfl | exact Or.inr rfl) (r_lst ra_nil)) (rss_cons (rs_for PassesOwn.never rfl (ri_range1 rfl T.b_range (ra_cons (kr_fld (K := K) (kr_fld (K := K) (rv 0))) ra_nil)) (rg_name (i := 2) sc_Game_view.nd rfl (by first | exact Or.inl rfl | exact Or.inr rfl)) (rss_cons (rs_comp (i := 3) sc_Game_view.nd rfl rfl (by rfl) rfl (ri_range1 rfl T.b_range (ra_cons (kr_fld (K := K) (kr_fld (K := K) (rv 0))) ra_nil)) (fun _ _ _ => rif_nil) (fun _ _ _ => (r_callTy call_strG rfl T.b_str bt_str (ra_cons (r_dget2 hu (kr_fld (K := K) (rv 1)) (r_tup (ra_cons (rv 3) (ra_cons (rv 0) ra_nil))) (r_gstr T.g_CLOSED_SIGN rfl) ⟨by rfl, by rfl, by rfl, by rfl⟩) ra_nil)))) (rss_one (rs_expr (kr_bm (K := K) PySem.F.plainAttrs_list PySem.F.slot_list_append PySem.F.type_list_append mt_append (rv 1) (ra_cons (kr_bm (K := K) PySem.F.plainAttrs_str PySem.F.slot_str_join PySem.F.type_str_join (k_join (K := K)) r_str (ra_cons (rv 3) ra_nil)) ra_nil)))))) (rss_one (rs_ret (r_make M_View hr rfl passE (ra_cons (rv 1) ra_nil)))))), ?_⟩
    refine seq_mid (fun σ H1 => ∃ p : Addr, H p = none ∧ Same H H1 ∧ H1 p = some (.lst []) ∧ σ = [some (.ref g), some (.ref p), none, none]) (fun R hR => ?_) ?_
    · exact ⟨by decide, fun p hp => hR _ _ ⟨p, hp, Same.put hp, upd_same, rfl⟩⟩
    rintro σ H1 ⟨p, np, s1, hp1, rfl⟩
    refine seq_mid (fun σ H2 => ∃ v2 v3 : Option V, Same H H2 ∧ H2 p = some (.lst ((shownL h w st kn).map V.str)) ∧ σ = [some (.ref g), some (.ref p), v2, v3]) (fun R hR => ?_) ?_
    · obtain ⟨dx, hg⟩ := (G.mono s1).ob
      obtain ⟨dy, ly, hf, hly⟩ := (G.mono s1).fl.ob
      rw [blank_len] at hf
      refine ⟨_, rfl, g, Z.Game, dx, _, _, rfl, hg, T.cl_Game, T.n_Game_field, g_field _ _ _ _, f, Z.View, dy, _, _, rfl, hf, T.cl_View, T.n_View_height, f_height _ _ _, _, rfl, by omega, by omega, ?_⟩
      rw [Int.toNat_natCast]
      refine for_range (lo := 0) (n := h) (fun i σ H2 => ∃ v2 v3 : Option V, Same H H2 ∧ H2 p = some (.lst (((List.range i).map fun r : Nat => rowN h w st kn (r : Int) w).map V.str)) ∧ σ = [some (.ref g), some (.ref p), v2, v3]) ⟨none, none, s1, hp1, rfl⟩ (fun i σ H2 hi hh => ?_) (fun σ H2 hh => ?_)
      · obtain ⟨v2, v3, g1, g2, rfl⟩ := hh
        have hi : i < h := hi
        refine seq_mid (fun σ H4 => ∃ q : Addr, Same H2 H4 ∧ H4 q = some (.lst (((List.range w).map fun c : Nat => (⟨#[sgnN h w st kn ((i : Int), (c : Int))]⟩ : Str)).map V.str)) ∧ σ = [some (.ref g), some (.ref p), some (.int (0 + i)), some (.ref q)]) (fun R' hR' => ?_) ?_
        · obtain ⟨dx, hg⟩ := (G.mono g1).ob
          obtain ⟨dy, ly, hf, hly⟩ := (G.mono g1).fl.ob
          rw [blank_len] at hf
          refine ⟨_, rfl, g, Z.Game, dx, _, _, rfl, hg, T.cl_Game, T.n_Game_field, g_field _ _ _ _, f, Z.View, dy, _, _, rfl, hf, T.cl_View, T.n_View_width, f_width _ _ _, _, rfl, by omega, by omega, ?_⟩
          rw [Int.toNat_natCast]
          refine comp_range (lo := 0) (n := w) (fun k ys H4 => Same H2 H4 ∧ ys = ((List.range k).map fun c : Nat => (⟨#[sgnN h w st kn ((i : Int), (c : Int))]⟩ : Str)).map V.str) (small (by omega)) (fun k ys H4 _ h => ?_) ⟨Same.refl _, rfl⟩ (fun k ys H4 hk h G' hG => ?_) (fun ys H4 h q hq' => ?_)
          · obtain ⟨_, rfl⟩ := h
            rw [List.length_map, List.length_map, List.length_range]; exact Nat.le_refl _
          · obtain ⟨t1, rfl⟩ := h
            have GG := G.mono (g1.trans t1)
            obtain ⟨dx, hg⟩ := GG.ob
            refine tyes ⟨_, rfl, g, Z.Game, dx, _, _, rfl, hg, T.cl_Game, T.n_Game_figures, g_figures _ _ _ _, d, rfl, .inr ⟨_, .inl GG.dc⟩, _, rfl, _, rfl, sz rfl, fun t ht => ?_⟩
            have st1 := Same.put (o := .tup [V.int (0 + (i : Int)), V.int (0 + (k : Int))]) ht
            have et : (upd H4 t (.tup [V.int (0 + (i : Int)), V.int (0 + (k : Int))])) t = some (.tup ((keyC ((i : Int), (k : Int))).map kV)) := by
              rw [upd_same, Int.zero_add, Int.zero_add]; rfl
            refine ⟨_, DGet.t (st1 _ _ GG.dc) et, ?_⟩
            rw [figs_val]
            have fin : ∀ H5, Same H4 H5 → G' (((List.range k).map fun c : Nat => (⟨#[sgnN h w st kn ((i : Int), (c : Int))]⟩ : Str)).map V.str ++ [.str ⟨#[sgnN h w st kn ((i : Int), (k : Int))]⟩]) H5 := fun H5 s5 => hG _ _ ⟨t1.trans s5, by rw [List.range_succ, List.map_append, List.map_append]; rfl⟩
            by_cases hm : ((i : Int), (k : Int)) ∈ kn
            · rw [if_pos hm]
              have f8 := figN_le h w st ((i : Int), (k : Int))
              have := fin _ st1
              have es : sgnN h w st kn ((i : Int), (k : Int)) = 48 + figN h w st ((i : Int), (k : Int)) := by unfold sgnN; rw [if_pos hm]
              rw [es, ← dig _ f8] at this
              exact .inl ⟨_, rfl, dig_log _ f8, this⟩
            · rw [if_neg hm]
              have := fin _ st1
              have es : sgnN h w st kn ((i : Int), (k : Int)) = 35 := by unfold sgnN; rw [if_neg hm]
              have eh : (⟨#[35]⟩ : Str) = "#" := by decide +kernel
              rw [es, eh] at this
              exact .inr ⟨_, rfl, this⟩
          · obtain ⟨t1, rfl⟩ := h
            exact hR' _ _ ⟨q, t1.and hq', upd_same, rfl⟩
        rintro σ H4 ⟨q, s4, hq4, rfl⟩
        have hp4 := s4 _ _ g2
        refine ⟨_, rfl, .inl ⟨rfl, _, SqL.of hp4⟩, rfl, _, rfl, ?_⟩
        refine ⟨"", q, _, rfl, rfl, SqL.of hq4, ?_, ?_⟩
        · have e0 : ("" : Str).length = 0 := by decide
          rw [e0]
          have : ∀ l : List Nat, ((l.map fun c : Nat => (⟨#[sgnN h w st kn ((i : Int), (c : Int))]⟩ : Str)).map (·.length)).sum = l.length := by
            intro l
            induction l with
            | nil => rfl
            | cons a l ih => rw [List.map_cons, List.map_cons, List.sum_cons, ih, List.length_cons]; show 1 + l.length = _; omega
          rw [this, List.length_map, List.length_range]; omega
        refine ⟨p, _, _, rfl, rfl, hp4, ltl (by rw [List.length_map, List.length_map, List.length_range]; omega), ?_⟩
        refine ⟨_, _, (SameBut.refl p _).put.of (g1.trans s4) np, ?_, rfl⟩
        rw [upd_same, join_row, List.range_succ, List.map_append, List.map_append]; rfl
      · obtain ⟨v2, v3, g1, g2, rfl⟩ := hh
        exact hR _ _ ⟨v2, v3, g1, g2, rfl⟩
    rintro σ H2 ⟨v2, v3, s2, hp2, rfl⟩
    have vw : Vw (shownL h w st kn) w := shown_vw h1 h6 w1 w6
    refine ⟨_, rfl, fun y dy ny ndy ney => ?_⟩
    have n2 : (upd H2 dy (.own y)) y = none := by rw [upd_ne ney.symm]; exact ny
    have s6 := (Same.put (o := .own y) ndy).and (o := .ins Z.View dy []) n2
    have ll : (shownL h w st kn).length = h := by unfold shownL; rw [List.length_map, List.length_range]
    refine ⟨y, dy, p, shownL h w st kn, rfl, upd_same, SqL.of (s6 _ _ hp2), by omega, fun r hr' => by have := vw.len r hr'; omega, fun hv => (by rw [vw.ok] at hv; cases hv), fun _ H' lr z0' zt' e nlr nlx hlr hx' keep => ⟨rfl, ?_⟩⟩
    have e0 : z0'.length = w := vw.len z0' (by rw [e]; exact List.mem_cons_self)
    have n1 : H y = none := s2.free ny
    refine hq y _ n1 (fun b o hb => keep b o (s6 _ _ (s2 _ _ hb)) (ne_of_none hb n1)) ⟨⟨dy, lr, ?_, hlr⟩, vw⟩
    rw [e0] at hx'; exact hx'
end
end My
set_option Elab.async false
set_option linter.all false
set_option maxRecDepth 100000
set_option maxHeartbeats 1000000
namespace My
open PySem L2
theorem game_grow {K : PySem.W.Frag} {C CV : Addr} {H H' : Hp} {g : Addr} {h w : Nat} {st kn kn' : List Cell} {lost : Bool} {f hd d : Addr} (G : GameAt K C CV H g h w st kn lost f hd d) (s : SameBut d H H') (e : H' d = some (.dT (figsL h w st kn'))) : GameAt K C CV H' g h w st kn' lost f hd d := by
  obtain ⟨dx, e0⟩ := G.ob
  obtain ⟨dy, ly, e1, e2⟩ := G.fl.ob
  obtain ⟨us, e3, D⟩ := G.hs
  have tp : Tups H H' := fun b xs eb => s _ _ eb (ne_of eb G.dc (by intro z; cases z))
  exact ⟨⟨dx, s _ _ e0 (ne_of e0 G.dc (by intro z; cases z))⟩, ⟨⟨dy, ly, s _ _ e1 (ne_of e1 G.dc (by intro z; cases z)), s _ _ e2 (ne_of e2 G.dc (by intro z; cases z))⟩, G.fl.vw⟩, ⟨us, s _ _ e3 (ne_of e3 G.dc (by intro z; cases z)), tp.cells D⟩, e⟩
theorem figs_snoc (h w : Int) (st kn : List Cell) (c : Cell) (nc : c ∉ kn) : putK (figsL h w st kn) (keyC c) (.int (figN h w st c)) = figsL h w st (kn ++ [c]) := by
  rw [putK_new _ (by rw [figs_val, if_neg nc])]
  unfold figsL
  rw [List.map_append]; rfl
structure UnInv (h w : Int) (st kn : List Cell) (c : Cell) (wt op : List Cell) : Prop where
  nd : op.Nodup
  new : ∀ y ∈ op, y ∉ kn
  rch : ∀ y ∈ op, Reach h w st kn c y
  wtr : ∀ y ∈ wt, inF h w y ∧ (y ∈ kn ∨ Reach h w st kn c y)
  has : c ∈ op ∨ c ∈ wt
  cl : ∀ x ∈ op, figN h w st x = 0 → ∀ y ∈ lnear h w x, y ∈ kn ∨ y ∈ op ∨ y ∈ wt
  ln : wt.length ≤ 1 + 8 * op.length
theorem UnInv.start {h w : Int} {st kn : List Cell} {c : Cell} (hc : inF h w c) : UnInv h w st kn c [c] [] :=
  ⟨by simp, fun y hy => (by cases hy), fun y hy => (by cases hy), fun y hy => (by rw [List.mem_singleton.mp hy]; exact ⟨hc, .inr .base⟩), .inr (List.mem_singleton.mpr rfl), fun x hx => (by cases hx), by simp⟩
theorem UnInv.skip {h w : Int} {st kn wt op : List Cell} {c m : Cell} (u : UnInv h w st kn c (wt ++ [m]) op) (hm : m ∈ kn ++ op) (nc : c ∉ kn) : UnInv h w st kn c wt op := by
  have old : ∀ y, y ∈ wt ++ [m] → y ∈ wt ∨ y = m := fun y hy => (List.mem_append.mp hy).imp id fun z => List.mem_singleton.mp z
  refine ⟨u.nd, u.new, u.rch, fun y hy => u.wtr y (List.mem_append_left _ hy), ?_, fun x hx e y hy => ?_, by have := u.ln; rw [List.length_append, List.length_singleton] at this; omega⟩
  · rcases u.has with z | z
    · exact .inl z
    · rcases old _ z with z | z
      · exact .inr z
      · subst z
        rcases List.mem_append.mp hm with q | q
        · exact absurd q nc
        · exact .inl q
  · rcases u.cl x hx e y hy with z | z | z
    · exact .inl z
    · exact .inr (.inl z)
    · rcases old _ z with z | z
      · exact .inr (.inr z)
      · subst z
        rcases List.mem_append.mp hm with q | q
        · exact .inl q
        · exact .inr (.inl q)
theorem UnInv.openB {h w : Int} {st kn wt op : List Cell} {c m : Cell} (u : UnInv h w st kn c (wt ++ [m]) op) (hm : m ∉ kn ++ op) (more : List Cell) (hz : figN h w st m = 0 → more = lnear h w m) (hn : figN h w st m ≠ 0 → more = []) : UnInv h w st kn c (wt ++ more) (op ++ [m]) := by
  have nk : m ∉ kn := fun z => hm (List.mem_append_left _ z)
  have no : m ∉ op := fun z => hm (List.mem_append_right _ z)
  have mr : inF h w m ∧ Reach h w st kn c m := by
    obtain ⟨a, b⟩ := u.wtr m (List.mem_append_right _ (List.mem_singleton.mpr rfl))
    exact ⟨a, b.resolve_left nk⟩
  have old : ∀ y, y ∈ wt ++ [m] → y ∈ wt ∨ y = m := fun y hy => (List.mem_append.mp hy).imp id fun z => List.mem_singleton.mp z
  have lm : more.length ≤ 8 := by
    by_cases e : figN h w st m = 0
    · rw [hz e]; exact lnear_len h w m
    · rw [hn e]; exact Nat.zero_le _
  refine ⟨?_, fun y hy => ?_, fun y hy => ?_, fun y hy => ?_, ?_, fun x hx e y hy => ?_, ?_⟩
  · exact List.nodup_append.mpr ⟨u.nd, by simp, fun a ha b hb e => no (by rw [← List.mem_singleton.mp hb, ← e]; exact ha)⟩
  · rcases List.mem_append.mp hy with z | z
    · exact u.new y z
    · rw [List.mem_singleton.mp z]; exact nk
  · rcases List.mem_append.mp hy with z | z
    · exact u.rch y z
    · rw [List.mem_singleton.mp z]; exact mr.2
  · rcases List.mem_append.mp hy with z | z
    · exact u.wtr y (List.mem_append_left _ z)
    · by_cases e : figN h w st m = 0
      · rw [hz e] at z
        refine ⟨lnear_in z, ?_⟩
        by_cases yk : y ∈ kn
        · exact .inl yk
        · exact .inr (.step mr.2 e z yk)
      · rw [hn e] at z; cases z
  · rcases u.has with z | z
    · exact .inl (List.mem_append_left _ z)
    · rcases old _ z with z | z
      · exact .inr (List.mem_append_left _ z)
      · exact .inl (List.mem_append_right _ (List.mem_singleton.mpr z))
  · rcases List.mem_append.mp hx with z | z
    · rcases u.cl x z e y hy with q | q | q
      · exact .inl q
      · exact .inr (.inl (List.mem_append_left _ q))
      · rcases old _ q with q | q
        · exact .inr (.inr (List.mem_append_left _ q))
        · exact .inr (.inl (List.mem_append_right _ (List.mem_singleton.mpr q)))
    · rw [List.mem_singleton.mp z] at e hy
      exact .inr (.inr (List.mem_append_right _ (by rw [hz e]; exact hy)))
  · have := u.ln
    rw [List.length_append, List.length_singleton] at this
    rw [List.length_append, List.length_append, List.length_singleton]; omega
theorem UnInv.done {h w : Int} {st kn op : List Cell} {c : Cell} (u : UnInv h w st kn c [] op) (y : Cell) : y ∈ op ↔ Reach h w st kn c y := by
  refine ⟨u.rch y, fun r => ?_⟩
  induction r with
  | base => exact u.has.resolve_right (by intro z; cases z)
  | step _ e hy hk ih =>
    rcases u.cl _ ih e _ hy with z | z | z
    · exact absurd z hk
    · exact z
    · cases z
theorem UnInv.len {h w : Nat} {st kn wt op : List Cell} {c : Cell} (u : UnInv h w st kn c wt op) (hc : inF h w c) (h6 : h ≤ 6) (w6 : w ≤ 6) : op.length ≤ 36 := by
  have := nodup_le (l2 := fieldL h w) u.nd fun y hy => mem_field.mpr ((u.rch y hy).inF hc)
  rw [field_len] at this
  have : h * w ≤ 6 * 6 := Nat.mul_le_mul h6 w6
  omega
theorem put_lost (f h d : Addr) (b : Bool) : putF "lost" (.bl true) (fGame f h d b) = fGame f h d true := by
  cases b <;> rfl
theorem game_lost {K : PySem.W.Frag} {C CV : Addr} {H H' : Hp} {g dx : Addr} {h w : Nat} {st kn : List Cell} {lost : Bool} {f hd d : Addr} (G : GameAt K C CV H g h w st kn lost f hd d) (s : SameBut g H H') (e : H' g = some (.ins C dx (fGame f hd d true))) : GameAt K C CV H' g h w st kn true f hd d := by
  obtain ⟨dx0, e0⟩ := G.ob
  obtain ⟨dy, ly, e1, e2⟩ := G.fl.ob
  obtain ⟨us, e3, D⟩ := G.hs
  have nf : f ≠ g := by
    intro z
    rw [z, e0] at e1
    injection e1 with e1
    injection e1 with _ _ e1
    have this : List.lookup ("rows" : Str) (fGame f hd d lost) = List.lookup ("rows" : Str) (fView ly (blankL h w).length w) := by rw [e1]
    rw [f_rows, g_none _ _ _ _ (by decide +kernel) (by decide +kernel) (by decide +kernel) (by decide +kernel)] at this
    cases this
  have tp : Tups H H' := fun b xs eb => s _ _ eb (ne_of eb e0 (by intro z; cases z))
  exact ⟨⟨dx, e⟩, ⟨⟨dy, ly, s _ _ e1 nf, s _ _ e2 (ne_of e2 e0 (by intro z; cases z))⟩, G.fl.vw⟩, ⟨us, s _ _ e3 (ne_of e3 e0 (by intro z; cases z)), tp.cells D⟩, s _ _ G.dc (ne_of G.dc e0 (by intro z; cases z))⟩
theorem few4 {f h d : Addr} {b : Bool} : (fGame f h d b).length < 1000 := by
  unfold fGame
  have h1 := length_putF "lost" (.bl b) (putF "figures" (.ref d) (putF "hidden" (.ref h) (putF "field" (.ref f) [])))
  have h2 := few3 (a := "figures") (b := "hidden") (c := "field") (v := .ref d) (u := .ref h) (z := .ref f)
  have h3 := length_putF "figures" (.ref d) (putF "hidden" (.ref h) (putF "field" (.ref f) []))
  have h4 := length_putF "hidden" (.ref h) (putF "field" (.ref f) [])
  have h5 := length_putF "field" (.ref f) []
  simp only [List.length_nil] at h5
  omega
def spUncover (K : PySem.W.Frag) (C CV OV NC : Addr) : Sp := fun vs H Q E => ∃ (g : Addr) (v : V) (h w : Nat) (st kn : List Cell) (lost : Bool) (f hd d : Addr) (c : Cell), vs = [.ref g, v] ∧ GameAt K C CV H g h w st kn lost f hd d ∧ Den K H v (cellD c) ∧ kn.length ≤ 36 ∧
  (stateS h w st kn lost ≠ "on" → ∀ H', Same H H' → E (.ref OV) none H') ∧
  (stateS h w st kn lost = "on" → ¬ (inF h w c ∧ c ∉ kn) → ∀ H', Same H H' → E (.ref NC) none H') ∧
  (stateS h w st kn lost = "on" → inF h w c → c ∉ kn → c ∈ st → ∀ H', SameBut g H H' → GameAt K C CV H' g h w st kn true f hd d → Q .non H') ∧
  (stateS h w st kn lost = "on" → inF h w c → c ∉ kn → c ∉ st → ∀ (q : Addr) (H' : Hp) (op ds : List Cell), H q = none → SameBut d H H' → GameAt K C CV H' g h w st (kn ++ op) lost f hd d → Ls K H' q (ds.map cellD) → ds.Perm op → Asc ds → op.Nodup → (∀ y, y ∈ op ↔ Reach h w st kn c y) → Q (.ref q) H')
theorem spUncover.mk {K : PySem.W.Frag} {C CV OV NC : Addr} {H : Hp} {Q : VK} {E : XK} {g : Addr} {v : V} {h w : Nat} {st kn : List Cell} {lost : Bool} {f hd d : Addr} {c : Cell} (G : GameAt K C CV H g h w st kn lost f hd d) (dv : Den K H v (cellD c)) (kl : kn.length ≤ 36) (e1 : (stateS h w st kn lost ≠ "on" → ∀ H', Same H H' → E (.ref OV) none H')) (e2 : (stateS h w st kn lost = "on" → ¬ (inF h w c ∧ c ∉ kn) → ∀ H', Same H H' → E (.ref NC) none H')) (q1 : (stateS h w st kn lost = "on" → inF h w c → c ∉ kn → c ∈ st → ∀ H', SameBut g H H' → GameAt K C CV H' g h w st kn true f hd d → Q .non H')) (q2 : (stateS h w st kn lost = "on" → inF h w c → c ∉ kn → c ∉ st → ∀ (q : Addr) (H' : Hp) (op ds : List Cell), H q = none → SameBut d H H' → GameAt K C CV H' g h w st (kn ++ op) lost f hd d → Ls K H' q (ds.map cellD) → ds.Perm op → Asc ds → op.Nodup → (∀ y, y ∈ op ↔ Reach h w st kn c y) → Q (.ref q) H')) : spUncover K C CV OV NC [.ref g, v] H Q E := ⟨g, v, h, w, st, kn, lost, f, hd, d, c, rfl, G, dv, kl, e1, e2, q1, q2⟩
theorem spHas.mk {K : PySem.W.Frag} {C x : Addr} {H : Hp} {Q : VK} {E : XK} {v : V} {zs : List Str} {w : Nat} {c : Cell} (vt : ViewAt C H x zs w) (dv : Den K H v (cellD c)) (q : Q (.bl (decide (inF zs.length w c))) H) : spHas K C [.ref x, v] H Q E := ⟨x, v, zs, w, c, rfl, vt, dv, q⟩
theorem spStones.mk {K : PySem.W.Frag} {C x l : Addr} {H : Hp} {Q : VK} {E : XK} {v : V} {zs : List Str} {w : Nat} {c : Cell} {cs : List Cell} (vt : ViewAt C H x zs w) (dv : Den K H v (cellD c)) (hin : inF zs.length w c) (hl : Ls K H l (cs.map cellD)) (q : ∀ H', Same H H' → Q (.int (stonesN zs.length w c cs)) H') : spStones K C [.ref x, v, .ref l] H Q E := ⟨x, l, v, zs, w, c, cs, rfl, vt, dv, hin, hl, q⟩
theorem spPNear.mk {K : PySem.W.Frag} {C NC x : Addr} {H : Hp} {Q : VK} {E : XK} {v : V} {zs : List Str} {w : Nat} {c : Cell} (vt : ViewAt C H x zs w) (dv : Den K H v (cellD c)) (hin : inF zs.length w c) (q : ∀ q H', Fr K H H' q ((lnear zs.length w c).map cellD) → Q (.ref q) H') : spPNear K C NC [.ref x, v] H Q E := ⟨x, v, zs, w, c, rfl, vt, dv, fun _ => q, fun z => absurd hin z⟩
section
variable {P : Program} {w : World} {K : PySem.W.Frag} {mg : Str → Option Value} {base : Heap} {Z : Adr}
theorem ok_uncover {f : Addr} {fd : FuncData} (F : Fun K "uncover" "Game.uncover" s_Game_uncover f fd) (T : Txt K mg Z) (N_Game_state : Mth P w K mg base 1 Z.Game "state" ["self"] (spGState K Z.Game Z.View)) (D_has_cell : Df P w K mg base 1 "has_cell" ["view", "cell"] (spHas K Z.View))
    (D_stones_near : Df P w K mg base 3 "stones_near" ["view", "cell", "laying"] (spStones K Z.View)) (D_near : Df P w K mg base 2 "near" ["view", "cell"] (spPNear K Z.View Z.NoCell)) : FnOk P w K mg base (CXE P w) 4 f fd ["self", "cell"] (spUncover K Z.Game Z.View Z.Over Z.NoCell) := by
  refine F.rokE sc_Game_uncover (fun vs H Q E h => ?_) (fun cdv A outer s H vs Q E hr h => ?_)
  · obtain ⟨g, v, h, w, st, kn, lost, f, hd, d, c, rfl, _⟩ := h; rfl
  · obtain ⟨g, v, h, w, st, kn, lost, fl, hh, d, c, rfl, G, dv, kl, e1, e2, q1, q2⟩ := h
    have hd := hd_of hr
    have hu := hu60 hr
    have hu' := hu61 hr
    have w6 := G.fl.vw.w6
    have h6 := G.fl.vw.le
    rw [blank_len] at h6
    obtain ⟨dx, hg⟩ := G.ob
    obtain ⟨tv, rfl, _, htv⟩ := cell_ref dv
    refine ⟨_, (rss_cons (rs_if (RT.nox (rt_cmp (op_ne.or (k_neD (K := K) hu)) (r_meth0 N_Game_state hr passE (rv 0)) r_str (nomark _))) (rss_one (rs_raise T.x_Over rfl T.c_Over hd (ra_cons r_str ra_nil))) rss_nil) (rss_cons (rs_if (RT.nox (rt_b (rb_or (rt_not (rt_val (r_def D_has_cell hr rfl passE (ra_cons (kr_fld (K := K) (rv 0)) (ra_cons (rv 1) ra_nil))))) (rb_or1 (rt_cmp (op_inDict hu) (rv 1) (kr_fld (K := K) (rv 0)) (by rfl)))))) (rss_one (rs_raise T.x_NoCell rfl T.c_NoCell hd (ra_cons r_str ra_nil))) rss_nil) (rss_cons (RS.nox (rs_if (rt_cmp (op_in_str.or (k_inD (K := K) hu')) (rv 1) (kr_fld (K := K) (rv 0)) (by rfl)) (rss_cons (rs_fld (rv 0) r_bl) (rss_one (rs_ret r_non))) rss_nil)) (rss_cons (RS.nox (rs_set (i := 2) sc_Game_uncover.nd rfl (by first | exact Or.inl rfl | exact Or.inr rfl) (r_lst ra_nil))) (rss_cons (RS.nox (rs_set (i := 3) sc_Game_uncover.nd rfl (by first | exact Or.inl rfl | exact Or.inr rfl) (r_lst (ra_cons (rv 1) ra_nil)))) (rss_cons (RS.nox (rs_while PassesOwn.never (rt_cmp op_gt (r_callB (k_len (K := K)) rfl T.b_len bt_len (ra_cons (rv 3) ra_nil)) r_int (nomark _)) (rss_cons (rs_set (i := 4) sc_Game_uncover.nd rfl (by first | exact Or.inl rfl | exact Or.inr rfl) (kr_bm0 (K := K) PySem.F.plainAttrs_list PySem.F.slot_list_pop PySem.F.type_list_pop mt_pop (rv 3))) (rss_one (rs_if (rt_cmp (op_notInDict hu) (rv 4) (kr_fld (K := K) (rv 0)) (by rfl)) (rss_cons (rs_asg (r_def D_stones_near hr rfl passE (ra_cons (kr_fld (K := K) (rv 0)) (ra_cons (rv 4) (ra_cons (kr_fld (K := K) (rv 0)) ra_nil)))) (rg_sub (kr_fld (K := K) (rv 0)) (rv 4) (set_dict hu))) (rss_cons (rs_expr (kr_bm (K := K) PySem.F.plainAttrs_list PySem.F.slot_list_append PySem.F.type_list_append mt_append (rv 2) (ra_cons (rv 4) ra_nil))) (rss_one (rs_if (rt_cmp (op_eq.or (k_eqD (K := K) hu)) (r_ix (ix_dict hu) (kr_fld (K := K) (rv 0)) (rv 4)) r_int (nomark _)) (rss_one (rs_expr (kr_bm (K := K) PySem.F.plainAttrs_list PySem.F.slot_list_extend PySem.F.type_list_extend mt_extend (rv 3) (ra_cons (r_def D_near hr rfl passE (ra_cons (kr_fld (K := K) (rv 0)) (ra_cons (rv 4) ra_nil))) ra_nil)))) rss_nil)))) rss_nil))))) (rss_one (RS.nox (rs_ret (r_callB (k_sortC (K := K) hu) rfl T.b_sorted bt_sorted (ra_cons (rv 2) ra_nil))))))))))), ?_⟩
    refine seq_mid (fun σ H1 => H1 = H ∧ stateS h w st kn lost = "on" ∧ σ = [some (.ref g), some (.ref tv), none, none, none]) (fun R hR => ?_) ?_
    · refine rd_meth0 G (by decide +kernel) (fun _ q => ⟨_, rfl, q⟩) (spGState.mk G (.inl ⟨rfl, _, rfl, ?_⟩))
      have es : decide (V.str (stateS h w st kn lost) = V.str "on") = decide (stateS h w st kn lost = "on") := by rw [decide_eq_decide]; exact ⟨fun z => by injection z, fun z => by rw [z]⟩
      rw [es]
      refine ite_b (fun hb => ⟨by decide, e1 (of_decide_eq_false (by simpa only [Bool.not_eq_true'] using hb)) _ (Same.refl _)⟩) (fun hb => hR _ _ ⟨rfl, of_decide_eq_true (by simpa only [Bool.not_eq_false'] using hb), rfl⟩)
    rintro σ H ⟨rfl, son, rfl⟩
    have lost0 : lost = false := by
      cases lost with
      | false => rfl
      | true => exact absurd son (by unfold stateS; rw [if_pos rfl]; decide +kernel)
    have key : H tv = some (.tup ((keyC c).map kV)) := htv
    refine seq_mid (fun σ H1 => H1 = H ∧ inF h w c ∧ c ∉ kn ∧ σ = [some (.ref g), some (.ref tv), none, none, none]) (fun R hR => ?_) ?_
    · refine rd_gfld G (fun _ q => ⟨_, rfl, q⟩) T.cl_Game T.n_Game_field (g_field _ _ _ _) ⟨_, rfl, ?_⟩
      dsimp only [tNil]
      refine spHas.mk G.fl dv ⟨_, rfl, ?_⟩
      rw [blank_len]
      refine ite_b (fun hb => ⟨by decide, e2 son (fun z => of_decide_eq_false (by simpa only [Bool.not_eq_true'] using hb) z.1) _ (Same.refl _)⟩) (fun hb => ?_)
      have hin : inF h w c := of_decide_eq_true (by simpa only [Bool.not_eq_false'] using hb)
      refine ⟨_, rfl, rd_gfld G (fun _ q => ⟨_, rfl, q⟩) T.cl_Game T.n_Game_figures (g_figures _ _ _ _) ⟨d, _, rfl, DGet.t G.dc key, _, rfl, ?_⟩⟩
      rw [figs_val]
      by_cases hk : c ∈ kn
      · rw [if_pos hk]
        exact iteT ⟨by decide, e2 son (fun z => z.2 hk) _ (Same.refl _)⟩
      · rw [if_neg hk]
        exact iteF (hR _ _ ⟨rfl, hin, hk, rfl⟩)
    rintro σ H ⟨rfl, hin, nk, rfl⟩
    refine seq_mid (fun σ H1 => H1 = H ∧ c ∉ st ∧ σ = [some (.ref g), some (.ref tv), none, none, none]) (fun R hR => ?_) ?_
    · refine ⟨_, rfl, rd_gfld G (fun _ q => ⟨_, rfl, q⟩) T.cl_Game T.n_Game_hidden (g_hidden _ _ _ _) (.inr (rd_in dv G.hs.den ⟨_, rfl, ?_⟩))⟩
      refine ite_b (fun hb => ?_) (fun hb => hR _ _ ⟨rfl, of_decide_eq_false hb, rfl⟩)
      refine ⟨_, rfl, g, Z.Game, dx, _, rfl, hg, T.cl_Game, T.n_Game_lost, few4, ?_⟩
      rw [put_lost]
      have sb : SameBut g H (upd H g (.ins Z.Game dx (fGame fl hh d true))) := (SameBut.refl g _).put
      refine q1 son hin nk (of_decide_eq_true hb) _ sb (game_lost G sb upd_same)
    rintro σ H ⟨rfl, ns, rfl⟩
    refine seq_mid (fun σ H1 => ∃ ol : Addr, H ol = none ∧ Same H H1 ∧ H1 ol = some (.lst []) ∧ σ = [some (.ref g), some (.ref tv), some (.ref ol), none, none]) (fun R hR => ?_) ?_
    · exact ⟨by decide, fun ol nol => hR _ _ ⟨ol, nol, Same.put nol, upd_same, rfl⟩⟩
    rintro σ H1 ⟨ol, nol, s1, eol, rfl⟩
    refine seq_mid (fun σ H2 => ∃ wl : Addr, H wl = none ∧ ol ≠ wl ∧ Same H1 H2 ∧ H2 wl = some (.lst [.ref tv]) ∧ σ = [some (.ref g), some (.ref tv), some (.ref ol), some (.ref wl), none]) (fun R hR => ?_) ?_
    · exact ⟨_, rfl, sz rfl, fun wl nwl => hR _ _ ⟨wl, s1.free nwl, ne_of_none eol nwl, Same.put nwl, upd_same, rfl⟩⟩
    rintro σ H2 ⟨wl, nwl, now, s2, ewl, rfl⟩
    have sd := (s1.trans s2).but d
    have nod : ∀ a, H a = none → a ≠ d := fun a z => (ne_of_none G.dc z).symm
    refine seq_mid (fun σ H3 => ∃ (op : List Cell) (v4 : Option V), SameBut d H H3 ∧ GameAt K Z.Game Z.View H3 g h w st (kn ++ op) lost fl hh d ∧ Ls K H3 ol (op.map cellD) ∧ UnInv h w st kn c [] op ∧ σ = [some (.ref g), some (.ref tv), some (.ref ol), some (.ref wl), v4]) (fun R hR => ?_) ?_
    · refine ⟨fun m σ H' => ∃ (wt op : List Cell) (v4 : Option V), SameBut d H H' ∧ GameAt K Z.Game Z.View H' g h w st (kn ++ op) lost fl hh d ∧ Ls K H' ol (op.map cellD) ∧ Ls K H' wl (wt.map cellD) ∧ UnInv h w st kn c wt op ∧ m = (36 - op.length) * 9 + wt.length ∧ σ = [some (.ref g), some (.ref tv), some (.ref ol), some (.ref wl), v4],
        ⟨_, [c], [], none, sd, by rw [List.append_nil]; exact G.mono (s1.trans s2), ⟨[], s2 _ _ eol, .nil⟩, ⟨_, ewl, .cons (dv.mono (s1.trans s2)) .nil⟩, .start hin, rfl, rfl⟩, ?_⟩
      rintro m σ H' ⟨wt, op, v4, sb, GG, lo, lw, ui, rfl, rfl⟩
      obtain ⟨xs, ex, D⟩ := id lw
      have lx : xs.length = wt.length := by rw [D.length, List.length_map]
      have o36 := ui.len hin h6 w6
      have wln := ui.ln
      refine ⟨_, rfl, .inl ⟨wl, _, rfl, .inl (SqL.of ex), _, _, rfl, rfl, _, rfl, ?_⟩⟩
      refine ite_b (fun hlt => ?_) (fun hlt => ?_)
      · have hlt : (0 : Int) < (xs.length : Int) := of_decide_eq_true hlt
        obtain ⟨wt, m, rfl⟩ : ∃ wt' m, wt = wt' ++ [m] := by
          rcases List.eq_nil_or_concat wt with z | ⟨l, b, z⟩
          · rw [z, List.length_nil] at lx; omega
          · exact ⟨l, b, by rw [z]; simp⟩
        obtain ⟨xs, u, rfl, Dx, du⟩ := dens_snoc D
        obtain ⟨tm, rfl, _, htm⟩ := cell_ref du
        have minF := (ui.wtr m (List.mem_append_right _ (List.mem_singleton.mpr rfl))).1
        refine ⟨fun σ' H4 => ∃ (wt' op' : List Cell) (v4 : Option V), SameBut d H H4 ∧ GameAt K Z.Game Z.View H4 g h w st (kn ++ op') lost fl hh d ∧ Ls K H4 ol (op'.map cellD) ∧ Ls K H4 wl (wt'.map cellD) ∧ UnInv h w st kn c wt' op' ∧ (36 - op'.length) * 9 + wt'.length < (36 - op.length) * 9 + (wt ++ [m]).length ∧ σ' = [some (.ref g), some (.ref tv), some (.ref ol), some (.ref wl), v4], fun σ' H4 hx => ?_, ?_⟩
        · obtain ⟨wt', op', v4, a1, a2, a3, a4, a5, a6, rfl⟩ := hx
          exact ⟨_, a6, wt', op', v4, a1, a2, a3, a4, a5, rfl, rfl⟩
        have nwol : wl ≠ ol := now.symm
        have nwh : wl ≠ hh := by
          obtain ⟨us, e, _⟩ := G.hs
          exact (ne_of_none e nwl).symm
        have noh : ol ≠ hh := by
          obtain ⟨us, e, _⟩ := G.hs
          exact (ne_of_none e nol).symm
        refine seq_mid (fun σ H4 => SameBut d H H4 ∧ GameAt K Z.Game Z.View H4 g h w st (kn ++ op) lost fl hh d ∧ Ls K H4 ol (op.map cellD) ∧ Ls K H4 wl (wt.map cellD) ∧ H4 tm = some (.tup [.int m.1, .int m.2]) ∧ σ = [some (.ref g), some (.ref tv), some (.ref ol), some (.ref wl), some (.ref tm)]) (fun R' hR' => ?_) ?_
        · refine ⟨_, rfl, .inl ⟨rfl, _, SqL.of ex⟩, wl, _, V.ref tm, rfl, rfl, ex, (by simp), ?_⟩
          rw [List.dropLast_concat]
          have sw : SameBut wl H' (upd H' wl (.lst xs)) := (SameBut.refl wl _).put
          refine hR' _ _ ⟨fun b o e nb => sw b o (sb b o e nb) (ne_of_none e nwl), game_but GG sw ex D nwh, sw.ls ex now lo, ⟨xs, upd_same, sw.cells ex Dx⟩, sw _ _ htm (ne_of htm ex (by intro z; cases z)), rfl⟩
        rintro σ H4 ⟨b4, G4, lo4, lw4, ht4, rfl⟩
        have k4 : H4 tm = some (.tup ((keyC m).map kV)) := ht4
        obtain ⟨dx4, hg4⟩ := G4.ob
        refine ⟨_, rfl, rd_gfld G4 (fun _ q => ⟨_, rfl, q⟩) T.cl_Game T.n_Game_figures (g_figures _ _ _ _) ⟨d, _, rfl, DGet.t G4.dc k4, _, rfl, ?_⟩⟩
        rw [figs_val]
        by_cases hk : m ∈ kn ++ op
        · rw [if_pos hk]
          exact iteF ⟨wt, op, _, b4, G4, lo4, lw4, ui.skip hk nk, by rw [List.length_append, List.length_singleton]; omega, rfl⟩
        rw [if_neg hk]
        refine iteT ?_
        have kl' : (kn ++ op).length ≤ 100 := by rw [List.length_append]; omega
        refine seq_mid (fun σ H5 => SameBut d H H5 ∧ GameAt K Z.Game Z.View H5 g h w st (kn ++ (op ++ [m])) lost fl hh d ∧ Ls K H5 ol (op.map cellD) ∧ Ls K H5 wl (wt.map cellD) ∧ H5 tm = some (.tup [.int m.1, .int m.2]) ∧ σ = [some (.ref g), some (.ref tv), some (.ref ol), some (.ref wl), some (.ref tm)]) (fun R' hR' => ?_) ?_
        · refine rd_gfld G4 (fun _ q => ⟨_, rfl, q⟩) T.cl_Game T.n_Game_field (g_field _ _ _ _) ⟨_, rfl, rd_gfld G4 (fun _ q => ⟨_, rfl, q⟩) T.cl_Game T.n_Game_hidden (g_hidden _ _ _ _) ?_⟩
          dsimp only [tNil]
          have dm4 : Den K H4 (.ref tm) (cellD m) := .tup ht4 (.cons (.int _) (.cons (.int _) .nil))
          refine spStones.mk G4.fl dm4 (by rw [blank_len]; exact minF) G4.hs fun H5 s5 => ?_
          rw [blank_len]
          have G5 := G4.mono s5
          refine rd_gfld G5 (fun _ q => ⟨_, rfl, q⟩) T.cl_Game T.n_Game_figures (g_figures _ _ _ _) ⟨_, rfl, d, _, rfl, DPut.t G5.dc (s5 _ _ k4) (ltl (by unfold figsL; rw [List.length_map]; omega)), ?_⟩
          have ef : putK (figsL h w st (kn ++ op)) (keyC m) (.int (stonesN h w m st)) = figsL h w st (kn ++ (op ++ [m])) := by
            rw [← List.append_assoc]
            exact figs_snoc h w st (kn ++ op) m hk
          rw [ef]
          have sdd : SameBut d H5 (upd H5 d (.dT (figsL h w st (kn ++ (op ++ [m]))))) := (SameBut.refl d _).put
          have tp : Tups H5 (upd H5 d (.dT (figsL h w st (kn ++ (op ++ [m]))))) := .put G5.dc (by intro xs z; cases z)
          have lsd : ∀ (a : Addr) (cs : List Cell), a ≠ d → Ls K H5 a (cs.map cellD) → Ls K (upd H5 d (.dT (figsL h w st (kn ++ (op ++ [m]))))) a (cs.map cellD) := fun a cs na ⟨zs, ez, Dz⟩ => ⟨zs, by rw [upd_ne na]; exact ez, tp.cells Dz⟩
          exact hR' _ _ ⟨(b4.trans (s5.but d)).trans sdd, game_grow G5 sdd upd_same, lsd ol op (nod _ nol) (lo4.mono s5), lsd wl wt (nod _ nwl) (lw4.mono s5), tp _ _ (s5 _ _ ht4), rfl⟩
        rintro σ H5 ⟨b5, G5, lo5, lw5, ht5, rfl⟩
        have dm5 : Den K H5 (.ref tm) (cellD m) := .tup ht5 (.cons (.int _) (.cons (.int _) .nil))
        refine seq_mid (fun σ H6 => SameBut d H H6 ∧ GameAt K Z.Game Z.View H6 g h w st (kn ++ (op ++ [m])) lost fl hh d ∧ Ls K H6 ol ((op ++ [m]).map cellD) ∧ Ls K H6 wl (wt.map cellD) ∧ H6 tm = some (.tup [.int m.1, .int m.2]) ∧ σ = [some (.ref g), some (.ref tv), some (.ref ol), some (.ref wl), some (.ref tm)]) (fun R' hR' => ?_) ?_
        · obtain ⟨os, eo, Do⟩ := id lo5
          have lo' : os.length = op.length := by rw [Do.length, List.length_map]
          refine ⟨_, rfl, .inl ⟨rfl, _, SqL.of eo⟩, _, rfl, ol, os, _, rfl, rfl, eo, ltl (by omega), ?_⟩
          have sw : SameBut ol H5 (upd H5 ol (.lst (os ++ [V.ref tm]))) := (SameBut.refl ol _).put
          refine hR' _ _ ⟨fun b o e nb => sw b o (b5 b o e nb) (ne_of_none e nol), game_but G5 sw eo Do noh, ⟨_, upd_same, ?_⟩, sw.ls eo nwol lw5, sw _ _ ht5 (ne_of ht5 eo (by intro z; cases z)), rfl⟩
          rw [List.map_append]
          exact (sw.cells eo Do).append (.cons (sw.cell eo dm5) .nil)
        rintro σ H6 ⟨b6, G6, lo6, lw6, ht6, rfl⟩
        have k6 : H6 tm = some (.tup ((keyC m).map kV)) := ht6
        have dm6 : Den K H6 (.ref tm) (cellD m) := .tup ht6 (.cons (.int _) (.cons (.int _) .nil))
        obtain ⟨dx6, hg6⟩ := G6.ob
        have mem : m ∈ kn ++ (op ++ [m]) := List.mem_append_right _ (List.mem_append_right _ (List.mem_singleton.mpr rfl))
        refine rd_gfld G6 (fun _ q => ⟨_, rfl, q⟩) T.cl_Game T.n_Game_figures (g_figures _ _ _ _) ⟨_, rfl, d, .int (figN h w st m), rfl, ?_, .inl ⟨rfl, _, rfl, ?_⟩⟩
        · have := DGet.t G6.dc k6
          rw [figs_val, if_pos mem] at this; exact this
        rw [dec_v]
        refine ite_b (fun hz => ?_) (fun hz => ?_)
        · have fz : figN h w st m = 0 := by have := of_decide_eq_true hz; omega
          obtain ⟨ws, ew, Dw⟩ := id lw6
          refine ⟨_, rfl, .inl ⟨rfl, _, SqL.of ew⟩, rd_gfld G6 (fun _ q => ⟨_, rfl, q⟩) T.cl_Game T.n_Game_field (g_field _ _ _ _) ⟨_, rfl, ?_⟩⟩
          dsimp only [tNil]
          refine spPNear.mk G6.fl dm6 (by rw [blank_len]; exact minF) fun q H7 fr => ?_
          rw [blank_len] at fr
          obtain ⟨ns, en, Dn⟩ := fr.ls
          have s7 := fr.same
          have ew7 := s7 _ _ ew
          have ll : ws.length + ns.length ≤ 1000 := by
            rw [Dw.length, Dn.length, List.length_map, List.length_map]
            have := lnear_len h w m
            rw [List.length_append] at wln
            omega
          refine ⟨wl, q, ws, ns, rfl, rfl, ew7, en, small (by omega), ?_⟩
          have sw : SameBut wl H7 (upd H7 wl (.lst (ws ++ ns))) := (SameBut.refl wl _).put
          refine ⟨wt ++ lnear h w m, op ++ [m], _, fun b o e nb => sw b o (s7 _ _ (b6 b o e nb)) (ne_of_none e nwl), game_but (G6.mono s7) sw ew7 (Dw.mono s7) nwh, sw.ls ew7 now (lo6.mono s7), ⟨_, upd_same, ?_⟩, ui.openB hk _ (fun _ => rfl) (fun z => absurd fz z), ?_, rfl⟩
          · rw [List.map_append]
            exact (sw.cells ew7 (Dw.mono s7)).append (sw.cells ew7 Dn)
          · have := lnear_len h w m
            have o36' := (ui.openB hk _ (fun _ => rfl) (fun z => absurd fz z)).len hin h6 w6
            simp only [List.length_append, List.length_singleton] at o36' ⊢
            omega
        · have fz : figN h w st m ≠ 0 := fun e => by rw [e] at hz; cases hz
          have ui' := ui.openB hk [] (fun z => absurd z fz) (fun _ => rfl)
          have o36' := ui'.len hin h6 w6
          rw [List.append_nil] at ui'
          refine ⟨wt, op ++ [m], _, b6, G6, lo6, lw6, ui', ?_, rfl⟩
          simp only [List.length_append, List.length_singleton] at o36' ⊢
          omega
      · have hlt : ¬ (0 : Int) < (xs.length : Int) := of_decide_eq_false hlt
        have : wt = [] := List.length_eq_zero_iff.mp (by omega)
        subst this
        exact hR _ _ ⟨op, v4, sb, GG, lo, ui, rfl⟩
    rintro σ H3 ⟨op, v4, b3, G3, lo, ui, rfl⟩
    obtain ⟨us, eu, Du⟩ := lo
    have o36 := ui.len hin h6 w6
    refine ⟨_, rfl, ol, us, op, rfl, SqL.of eu, Du, by omega, fun q ws ds hn pm D' pc as => ?_⟩
    have nq : H q = none := by
      cases e : H q with
      | none => rfl
      | some o =>
        by_cases z : q = d
        · rw [z] at hn; rw [G3.dc] at hn; cases hn
        · rw [b3 _ _ e z] at hn; cases hn
    exact q2 son hin nk ns q _ op ds nq (b3.and hn) (G3.mono (Same.put hn)) (.new hn D') pc as ui.nd ui.done
end
end My
set_option Elab.async false
set_option linter.all false
set_option maxRecDepth 100000
set_option maxHeartbeats 1000000
namespace My
open PySem L2
section
variable {h w : Int} {st kn : List Cell}
def ClosedK (h w : Int) (st kn : List Cell) : Prop := ∀ x ∈ kn, figN h w st x = 0 → ∀ y ∈ lnear h w x, y ∈ kn
theorem reach_cut (cl : ClosedK h w st kn) {c : Cell} (hc : c ∉ kn) (y : Cell) : Reach h w st kn c y ↔ (Reach h w st [] c y ∧ y ∉ kn) := by
  constructor
  · intro r
    induction r with
    | base => exact ⟨.base, hc⟩
    | step _ h0 hy hn ih => exact ⟨.step ih.1 h0 hy (by intro z; cases z), hn⟩
  · rintro ⟨r, hn⟩
    induction r with
    | base => exact .base
    | @step x y _ h0 hy _ ih =>
      have hx : x ∉ kn := fun z => hn (cl x z h0 y hy)
      exact .step (ih hx) h0 hy hn
theorem reach_in (cl : ClosedK h w st kn) {c y : Cell} (hc : c ∈ kn) (r : Reach h w st [] c y) : y ∈ kn := by
  induction r with
  | base => exact hc
  | step _ h0 hy _ ih => exact cl _ ih h0 _ hy
theorem reach_free {c y : Cell} (h1 : inF h w c) (h2 : c ∉ st) (r : Reach h w st [] c y) : inF h w y ∧ y ∉ st := by
  induction r with
  | base => exact ⟨h1, h2⟩
  | step _ h0 hy _ ih => exact ⟨lnear_in hy, fig_zero h0 hy⟩
structure Pl (h w : Int) (st dn kn : List Cell) : Prop where
  nd : kn.Nodup
  cl : ClosedK h w st kn
  mem : ∀ y, y ∈ kn ↔ ∃ c ∈ dn, Reach h w st [] c y
theorem Pl.start : Pl h w st [] [] := ⟨List.nodup_nil, (fun x hx => by cases hx), fun y => ⟨(fun z => by cases z), fun ⟨c, hc, _⟩ => (by cases hc)⟩⟩
theorem Pl.more {dn : List Cell} {c : Cell} (p : Pl h w st dn kn) (hr : ∀ y, Reach h w st [] c y → y ∈ kn) : Pl h w st (dn ++ [c]) kn := by
  refine ⟨p.nd, p.cl, fun y => ?_⟩
  rw [p.mem y]
  constructor
  · rintro ⟨d, hd, r⟩
    exact ⟨d, List.mem_append_left _ hd, r⟩
  · rintro ⟨d, hd, r⟩
    rcases List.mem_append.mp hd with z | z
    · exact ⟨d, z, r⟩
    · rw [List.mem_singleton.mp z] at r
      exact (p.mem y).mp (hr y r)
theorem Pl.add {dn op : List Cell} {c : Cell} (p : Pl h w st dn kn) (hc : c ∉ kn) (nd : op.Nodup) (ho : ∀ y, y ∈ op ↔ Reach h w st kn c y) : Pl h w st (dn ++ [c]) (kn ++ op) := by
  have ho' : ∀ y, y ∈ op ↔ (Reach h w st [] c y ∧ y ∉ kn) := fun y => by rw [ho y, reach_cut p.cl hc y]
  refine ⟨List.nodup_append.mpr ⟨p.nd, nd, fun a ha b hb e => ((ho' b).mp hb).2 (by rw [← e]; exact ha)⟩, fun x hx h0 y hy => ?_, fun y => ?_⟩
  · rcases List.mem_append.mp hx with z | z
    · exact List.mem_append_left _ (p.cl x z h0 y hy)
    · by_cases hk : y ∈ kn
      · exact List.mem_append_left _ hk
      · exact List.mem_append_right _ ((ho y).mpr (.step ((ho x).mp z) h0 hy hk))
  · rw [List.mem_append, p.mem y, ho' y]
    constructor
    · rintro (⟨d, hd, r⟩ | ⟨r, _⟩)
      · exact ⟨d, List.mem_append_left _ hd, r⟩
      · exact ⟨c, List.mem_append_right _ (List.mem_singleton.mpr rfl), r⟩
    · rintro ⟨d, hd, r⟩
      rcases List.mem_append.mp hd with z | z
      · exact .inl ⟨d, z, r⟩
      · rw [List.mem_singleton.mp z] at r
        by_cases hk : y ∈ kn
        · exact .inl ((p.mem y).mp hk)
        · exact .inr ⟨r, hk⟩
end
theorem Pl.free {h w : Nat} {st dn kn : List Cell} (p : Pl h w st dn kn) (hd : ∀ c ∈ dn, inF h w c ∧ c ∉ st) {y : Cell} (hy : y ∈ kn) : inF h w y ∧ y ∉ st := by
  obtain ⟨c, hc, r⟩ := (p.mem y).mp hy
  exact reach_free (hd c hc).1 (hd c hc).2 r
theorem Pl.len {h w : Nat} {st dn kn : List Cell} (p : Pl h w st dn kn) (hd : ∀ c ∈ dn, inF h w c ∧ c ∉ st) (h6 : h ≤ 6) (w6 : w ≤ 6) : kn.length ≤ 36 := by
  have := nodup_le (l2 := fieldL h w) p.nd fun y hy => mem_field.mpr (p.free hd hy).1
  rw [field_len] at this
  have : h * w ≤ 6 * 6 := Nat.mul_le_mul h6 w6
  omega
theorem Pl.won {h w : Nat} {st dn kn : List Cell} (p : Pl h w st dn kn) (hd : ∀ c ∈ dn, inF h w c ∧ c ∉ st) (sub : st.Sublist (fieldL h w)) (nst : st.Nodup) (full : kn.length + st.length = h * w) {c : Cell} (hc : inF h w c ∧ c ∉ st) : ∀ y, Reach h w st [] c y → y ∈ kn := fun y r => Classical.byContradiction fun hn => by
  obtain ⟨y1, y2⟩ := reach_free hc.1 hc.2 r
  have nd : (y :: (kn ++ st)).Nodup := by
    refine List.nodup_cons.mpr ⟨fun z => (List.mem_append.mp z).elim hn y2, List.nodup_append.mpr ⟨p.nd, nst, fun a ha b hb e => ?_⟩⟩
    exact (p.free hd ha).2 (by rw [e]; exact hb)
  have hl := nodup_le (l2 := fieldL h w) nd fun z hz => by
    rcases List.mem_cons.mp hz with q | q
    · rw [q]; exact mem_field.mpr y1
    · rcases List.mem_append.mp q with q | q
      · exact mem_field.mpr (p.free hd q).1
      · exact sub.subset q
  rw [field_len, List.length_cons, List.length_append] at hl
  omega
def spPlayed (K : PySem.W.Frag) (C CV : Addr) : Sp := fun vs H Q _ => ∃ (g l : Addr) (h w : Nat) (st cs : List Cell) (f hd d : Addr), vs = [.ref g, .ref l] ∧ GameAt K C CV H g h w st [] false f hd d ∧ Ls K H l (cs.map cellD) ∧ cs.length ≤ 100 ∧ (h ≤ 6 ∧ w ≤ 6) ∧ st.Sublist (fieldL h w) ∧ st.Nodup ∧ (∀ c ∈ cs, inF h w c ∧ c ∉ st) ∧
  ∀ (q : Addr) (H' : Hp) (kn fnd : List Cell), SameBut d H H' → GameAt K C CV H' g h w st kn false f hd d → Ls K H' q (fnd.map cellD) → fnd.Perm kn → Pl h w st cs kn → Q (.ref q) H'
theorem but_tups {d : Addr} {H H' : Hp} {t : List (List Key × V)} (s : SameBut d H H') (e : H d = some (.dT t)) : Tups H H' := fun b xs z => s _ _ z (fun q => by rw [q, e] at z; cases z)
theorem but_ls {K : PySem.W.Frag} {d p : Addr} {H H' : Hp} {t : List (List Key × V)} {cs : List Cell} (s : SameBut d H H') (e : H d = some (.dT t)) (l : Ls K H p (cs.map cellD)) : Ls K H' p (cs.map cellD) := by
  obtain ⟨xs, ex, D⟩ := l
  exact ⟨xs, s _ _ ex (fun q => by rw [q, e] at ex; cases ex), (but_tups s e).cells D⟩
theorem but_seq {K : PySem.W.Frag} {d a : Addr} {H H' : Hp} {t : List (List Key × V)} {xs : List V} (s : SameBut d H H') (e : H d = some (.dT t)) (l : SqL K H a xs) : SqL K H' a xs := by
  rcases l with (z | ⟨ob, z⟩) | z
  · exact .inl (.inl (s _ _ z (fun q => by rw [q, e] at z; cases z)))
  · exact .inl (.inr ⟨ob, s _ _ z (fun q => by rw [q, e] at z; cases z)⟩)
  · exact .inr z
theorem but_game {K : PySem.W.Frag} {C CV g f hd d d' : Addr} {h w : Nat} {st kn : List Cell} {lost : Bool} {H H' : Hp} {t : List (List Key × V)} (G : GameAt K C CV H g h w st kn lost f hd d) (s : SameBut d' H H') (e : H d' = some (.dT t)) (n : d ≠ d') : GameAt K C CV H' g h w st kn lost f hd d := by
  obtain ⟨dx, e1⟩ := G.ob
  obtain ⟨dy, ly, e2, e3⟩ := G.fl.ob
  exact ⟨⟨dx, s _ _ e1 (fun q => by rw [q, e] at e1; cases e1)⟩, ⟨⟨dy, ly, s _ _ e2 (fun q => by rw [q, e] at e2; cases e2), s _ _ e3 (fun q => by rw [q, e] at e3; cases e3)⟩, G.fl.vw⟩, but_ls s e G.hs, s _ _ G.dc n⟩
theorem cut_from (xs : List V) (n : Nat) : cutV xs (some (n : Int)) none = xs.drop n := by
  unfold cutV
  rw [HT.sIx_none, HT.sIx_nat]
  by_cases h : n ≤ xs.length
  · rw [Nat.min_eq_left h]
    exact List.take_of_length_le (by simp)
  · rw [Nat.min_eq_right (by omega), Nat.sub_self, List.take_zero, List.drop_of_length_le (by omega)]
theorem cut_to {xs : List V} {n : Nat} (h : n ≤ xs.length) : cutV xs none (some (n : Int)) = xs.take n := by
  unfold cutV
  rw [HT.sIx_none, HT.sIx_nat, Nat.min_eq_left h, List.drop_zero, Nat.sub_zero]
theorem dens_take {K : PySem.W.Frag} {H : Hp} : ∀ {vs : List V} {ds : List Dt} (n : Nat), Dens K H vs ds → Dens K H (vs.take n) (ds.take n)
  | _, _, 0, _ => .nil
  | _, _, _ + 1, .nil => .nil
  | _, _, n + 1, .cons h t => .cons h (dens_take n t)
theorem dens_drop {K : PySem.W.Frag} {H : Hp} : ∀ {vs : List V} {ds : List Dt} (n : Nat), Dens K H vs ds → Dens K H (vs.drop n) (ds.drop n)
  | _, _, 0, h => h
  | _, _, _ + 1, .nil => .nil
  | _, _, n + 1, .cons _ t => dens_drop n t
theorem dens_rev {K : PySem.W.Frag} {H : Hp} : ∀ {vs : List V} {ds : List Dt}, Dens K H vs ds → Dens K H vs.reverse ds.reverse
  | _, _, .nil => .nil
  | _, _, .cons h t => by
    rw [List.reverse_cons, List.reverse_cons]
    exact (dens_rev t).append (.cons h .nil)
theorem free_full {h w : Nat} {st : List Cell} (sub : st.Sublist (fieldL h w)) (nf : (fieldL h w).Nodup) (e : freeN w st h = []) : ([] : List Cell).length + st.length = h * w := by
  have h1 := sub.length_le
  have h2 := nodup_le (l2 := st) nf fun y hy => Classical.byContradiction fun z => by
    have : y ∈ freeN w st h := List.mem_filter.mpr ⟨hy, by simpa using z⟩
    rw [e] at this; cases this
  rw [field_len] at h1 h2
  rw [List.length_nil]; omega
theorem rd_make {K : PySem.W.Frag} {C CV BV BL l : Addr} {h w : Nat} {st : List Cell} {H : Hp} {Q : Addr → Hp → Prop} {E : XK} (lg : Ls K H l (st.map cellD)) (l36 : st.length ≤ 36) (hsz : sizeB (h : Int) (w : Int) = true) (hlay : layB (blankL h w) w st = true)
    (q : ∀ x f hd d H', H d = none → Same H H' → GameAt K C CV H' x h w st [] false f hd d → Q x H') : ∀ x dx, H x = none → H dx = none → dx ≠ x → spGInit K C CV BV BL (.ref x :: ([.int h, .int w, .ref l] ++ [])) (upd (upd H dx (.own x)) x (.ins C dx [])) (fun v H2 => v = .non ∧ Q x H2) E := by
  intro x dx nx ndx nex
  have n2 : (upd H dx (.own x)) x = none := by rw [upd_ne nex.symm]; exact nx
  have s6 : Same H (upd (upd H dx (.own x)) x (.ins C dx [])) := (Same.put ndx).and n2
  refine ⟨x, dx, l, h, w, st, rfl, upd_same, lg.mono s6, by omega, fun hb => (by rw [hsz] at hb; cases hb), fun _ hb => (by rw [Int.toNat_natCast, Int.toNat_natCast, hlay] at hb; cases hb), fun _ _ H' f hd d nf nhd nd n1 n2' n3 n4 G keep => ⟨rfl, ?_⟩⟩
  rw [Int.toNat_natCast, Int.toNat_natCast] at G
  exact q x f hd d H' (s6.free nd) (fun b o e => keep b o (s6 _ _ e) (ne_of_none e nx)) G
theorem shown_congr {h w : Nat} {st kn kn' : List Cell} (hm : ∀ y, y ∈ kn ↔ y ∈ kn') : shownL h w st kn = shownL h w st kn' := by
  unfold shownL
  refine List.map_congr_left fun r _ => ?_
  unfold rowN
  have : ((List.range w).map fun c : Nat => sgnN h w st kn ((r : Int), (c : Int))) = (List.range w).map fun c : Nat => sgnN h w st kn' ((r : Int), (c : Int)) := List.map_congr_left fun c _ => by
    unfold sgnN
    by_cases z : ((r : Int), (c : Int)) ∈ kn
    · rw [if_pos z, if_pos ((hm _).mp z)]
    · rw [if_neg z, if_neg (fun q => z ((hm _).mpr q))]
  rw [this]
theorem in_all66 {h w : Nat} {c : Cell} (h6 : h ≤ 6) (w6 : w ≤ 6) (hc : inF h w c) : c ∈ all66 := by
  obtain ⟨r, k⟩ := c
  have ⟨⟨a1, a2⟩, a3, a4⟩ := hc
  refine List.mem_flatMap.mpr ⟨r.toNat, List.mem_range.mpr (by omega), List.mem_map.mpr ⟨k.toNat, List.mem_range.mpr (by omega), ?_⟩⟩
  rw [Int.toNat_of_nonneg (by omega), Int.toNat_of_nonneg (by omega)]
section
variable {P : Program} {w : World} {K : PySem.W.Frag} {mg : Str → Option Value} {base : Heap} {Z : Adr}
theorem ok_played {f : Addr} {fd : FuncData} (F : Fun K "_law_played" "_law_played" s__law_played f fd) (T : Txt K mg Z) (N_Game_state : Mth P w K mg base 1 Z.Game "state" ["self"] (spGState K Z.Game Z.View)) (N_Game_uncover : Mth P w K mg base 4 Z.Game "uncover" ["self", "cell"] (spUncover K Z.Game Z.View Z.Over Z.NoCell)) :
    FnOk P w K mg base (CXE P w) 5 f fd ["game", "cells"] (spPlayed K Z.Game Z.View) := by
  refine F.rok sc__law_played (fun vs H Q E h => ?_) (fun cdv A outer s H vs Q E hr h => ?_)
  · obtain ⟨g, l, h, w, st, cs, f, hd, d, rfl, _⟩ := h; rfl
  · obtain ⟨g, l, h, w, st, cs, fl, hh, d, rfl, G, lc, l100, ⟨h6, w6⟩, sub, nst, hcs, hq⟩ := h
    have hu := hu60 hr
    have hu' := hu61 hr
    refine ⟨_, (rss_cons (rs_set (i := 2) sc__law_played.nd rfl (by first | exact Or.inl rfl | exact Or.inr rfl) (r_lst ra_nil)) (rss_cons (rs_for PassesOwn.never rfl (kri_list (K := K) (rv 1)) (rg_name (i := 3) sc__law_played.nd rfl (by first | exact Or.inl rfl | exact Or.inr rfl)) (rss_one (rs_if (rt_b (rb_and (rt_cmp (op_notin_str.or (k_notInD (K := K) hu')) (rv 3) (rv 2) (by rfl)) (rb_and1 (rt_cmp (op_eq.or (k_eqD (K := K) hu)) (r_meth0 N_Game_state hr passE (rv 0)) r_str (nomark _))))) (rss_one (rs_set (i := 2) sc__law_played.nd rfl (by first | exact Or.inl rfl | exact Or.inr rfl) (r_op op_addG (rv 2) (r_meth N_Game_uncover hr passE (rv 0) (ra_cons (rv 3) ra_nil))))) rss_nil))) (rss_one (rs_ret (rv 2))))), ?_⟩
    obtain ⟨us, eu, Du⟩ := id lc
    have lus : us.length = cs.length := by rw [Du.length, List.length_map]
    refine seq_mid (fun σ H1 => ∃ q : Addr, Same H H1 ∧ H1 q = some (.lst []) ∧ σ = [some (.ref g), some (.ref l), some (.ref q), none]) (fun R hR => ?_) ?_
    · exact ⟨by decide, fun q nq => hR _ _ ⟨q, Same.put nq, upd_same, rfl⟩⟩
    rintro σ H1 ⟨q, s1, eq1, rfl⟩
    refine seq_mid (fun σ H2 => ∃ (q : Addr) (kn fnd : List Cell) (v3 : Option V), SameBut d H H2 ∧ GameAt K Z.Game Z.View H2 g h w st kn false fl hh d ∧ Ls K H2 q (fnd.map cellD) ∧ fnd.Perm kn ∧ Pl h w st cs kn ∧ σ = [some (.ref g), some (.ref l), some (.ref q), v3]) (fun R hR => ?_) ?_
    · refine ⟨_, rfl, l, rfl, ⟨_, SqL.of (s1 _ _ eu)⟩, ?_⟩
      refine for_list (K := K) (xs := us) (fun i σ H2 => ∃ (q : Addr) (kn fnd : List Cell) (v3 : Option V), SameBut d H H2 ∧ H2 l = some (.lst us) ∧ Dens K H2 us (cs.map cellD) ∧ GameAt K Z.Game Z.View H2 g h w st kn false fl hh d ∧ Ls K H2 q (fnd.map cellD) ∧ fnd.Perm kn ∧ Pl h w st (cs.take i) kn ∧ σ = [some (.ref g), some (.ref l), some (.ref q), v3])
        ⟨q, [], [], none, s1.but d, s1 _ _ eu, Du.mono s1, G.mono s1, ⟨[], eq1, .nil⟩, .refl _, Pl.start, rfl⟩ (fun i σ H2 _ hh' => by obtain ⟨_, _, _, _, _, e, _⟩ := hh'; exact SqL.of e) (fun i u σ H2 hi hh' => ?_) (fun σ H2 hh' => ?_)
      · obtain ⟨q, kn, fnd, v3, sb, el, Dl, G2, lq, pf, pl, rfl⟩ := hh'
        obtain ⟨dc, edc, du⟩ := Dl.get hi
        rw [List.getElem?_map] at edc
        obtain ⟨c, ecq, rfl⟩ := Option.map_eq_some_iff.mp edc
        have cm : c ∈ cs := List.mem_of_getElem? ecq
        have cf := hcs c cm
        have hdn : ∀ x ∈ cs.take i, inF h w x ∧ x ∉ st := fun x hx => hcs x (List.mem_of_mem_take hx)
        have tk : cs.take (i + 1) = cs.take i ++ [c] := by rw [List.take_succ, ecq]; rfl
        have kl := pl.len hdn h6 w6
        obtain ⟨dx, hg⟩ := G2.ob
        have skip : (∀ y, Reach h w st [] c y → y ∈ kn) → ∃ (q' : Addr) (kn fnd : List Cell) (v3 : Option V), SameBut d H H2 ∧ H2 l = some (.lst us) ∧ Dens K H2 us (cs.map cellD) ∧ GameAt K Z.Game Z.View H2 g h w st kn false fl hh d ∧ Ls K H2 q' (fnd.map cellD) ∧ fnd.Perm kn ∧ Pl h w st (cs.take (i + 1)) kn ∧ [some (V.ref g), some (.ref l), some (.ref q), some u] = [some (.ref g), some (.ref l), some (.ref q'), v3] := fun hr => ⟨q, kn, fnd, _, sb, el, Dl, G2, lq, pf, by rw [tk]; exact pl.more hr, rfl⟩
        refine ⟨_, rfl, _, rfl, .inr (rd_notin du lq.den ⟨_, rfl, ?_⟩)⟩
        refine ite_b (fun h1 => ?_) (fun h1 => iteF ?_)
        · have nf : c ∉ fnd := of_decide_eq_false (by simpa only [Bool.not_eq_true'] using h1)
          have nk : c ∉ kn := fun z => nf (pf.mem_iff.mpr z)
          refine ⟨_, rfl, g, dx, _, rfl, hg, g_none _ _ _ _ (by decide +kernel) (by decide +kernel) (by decide +kernel) (by decide +kernel), ?_⟩
          dsimp only [tNil]
          refine spGState.mk G2 ?_
          refine Or.inl ⟨rfl, _, rfl, ?_⟩
          by_cases hon : stateS h w st kn false = "on"
          · rw [hon, decide_eq_true rfl]
            refine iteT ⟨_, rfl, _, rfl, g, dx, _, rfl, hg, g_none _ _ _ _ (by decide +kernel) (by decide +kernel) (by decide +kernel) (by decide +kernel), _, rfl, ?_⟩
            dsimp only [tNil]
            refine spUncover.mk G2 du kl (fun z => absurd hon z) (fun _ z => absurd ⟨cf.1, nk⟩ z) (fun _ _ _ z => absurd z cf.2) (fun _ _ _ _ q2 H3 op ds nq2 sb3 G3 l2 pd ad nd mo => ?_)
            have ed2 := G2.dc
            have lq3 := but_ls sb3 ed2 lq
            have fl36 : fnd.length ≤ 36 := by rw [pf.length_eq]; exact kl
            have p2 := pl.add nk nd mo
            have kl2 : (kn ++ op).length ≤ 36 := p2.len (fun x hx => by
              rcases List.mem_append.mp hx with z | z
              · exact hdn x z
              · rw [List.mem_singleton.mp z]; exact cf) h6 w6
            refine rd_cat (K := K) lq3 l2 (by rw [List.length_map, List.length_map, pd.length_eq]; rw [List.length_append] at kl2; omega) fun r H4 fr => ?_
            rw [← List.map_append] at fr
            refine ⟨r, kn ++ op, fnd ++ ds, _, (sb.trans sb3).trans (fr.same.but d), fr.same _ _ (sb3 _ _ el (fun z => by rw [z, ed2] at el; cases el)), ((but_tups sb3 ed2).cells Dl).mono fr.same, G3.mono fr.same, fr.ls, pf.append pd, by rw [tk]; exact p2, rfl⟩
          · have hno : decide (V.str (stateS h w st kn false) = V.str "on") = false := decide_eq_false fun z => hon (by injection z)
            rw [hno]
            refine iteF (skip (pl.won hdn sub nst ?_ cf))
            unfold stateS at hon
            rw [if_neg Bool.false_ne_true] at hon
            exact Classical.byContradiction fun z => hon (by rw [if_neg z])
        · have yf : c ∈ fnd := of_decide_eq_true (by simpa only [Bool.not_eq_false'] using h1)
          exact skip (fun y r => reach_in pl.cl (pf.mem_iff.mp yf) r)
      · obtain ⟨q, kn, fnd, v3, sb, el, Dl, G2, lq, pf, pl, rfl⟩ := hh'
        rw [lus, List.take_length] at pl
        exact hR _ _ ⟨q, kn, fnd, v3, sb, G2, lq, pf, pl, rfl⟩
    rintro σ H2 ⟨q, kn, fnd, v3, sb, G2, lq, pf, pl, rfl⟩
    exact ⟨_, rfl, hq q _ kn fnd sb G2 lq pf pl⟩
end
end My
set_option Elab.async false
set_option linter.all false
set_option maxRecDepth 100000
set_option maxHeartbeats 2000000
namespace My
open PySem L2
def spLaw (K : PySem.W.Frag) : Sp := fun vs H Q _ => ∃ (a : Addr) (ns : List Int), vs = [.ref a] ∧ SqL K H a (ns.map V.int) ∧ ∀ H', Q (.bl true) H'
def s14 (a h w p : V) (o4 o5 o6 o7 o8 o9 o10 o11 o12 o13 : Option V) : L2.St := [some a, some h, some w, some p, o4, o5, o6, o7, o8, o9, o10, o11, o12, o13]
section
variable {P : Program} {wd : World} {K : PySem.W.Frag} {mg : Str → Option Value} {base : Heap} {Z : Adr}
theorem ok_law {f : Addr} {fd : FuncData} (F : Fun K "law" "law" s_law f fd) (T : Txt K mg Z) (D__law_cell_at : Df P wd K mg base 1 "_law_cell_at" ["script", "k"] (spCell K)) (D__law_mix : Df P wd K mg base 1 "_law_mix" ["cell", "k", "many"] spMix) (D__law_field_by : Df P wd K mg base 2 "_law_field_by" ["script", "most"] (spField K))
    (D__law_played : Df P wd K mg base 5 "_law_played" ["game", "cells"] (spPlayed K Z.Game Z.View)) (M_Game : Md P wd K mg base 5 "Game" ["self", "height", "width", "stones"] Z.Game (spGInit K Z.Game Z.View Z.BadView Z.BadLaying)) (N_Game_view : Mth P wd K mg base 5 Z.Game "view" ["self"] (spGView K Z.Game Z.View)) (N_Game_state : Mth P wd K mg base 1 Z.Game "state" ["self"] (spGState K Z.Game Z.View)) :
    FnOk P wd K mg base (CXE P wd) 7 f fd ["script"] (spLaw K) := by
  refine F.rok sc_law (fun vs H Q E h => ?_) (fun cdv A outer s H vs Q E hr h => ?_)
  · obtain ⟨a, ns, rfl, _⟩ := h; rfl
  · obtain ⟨a, ns, rfl, hS, hq⟩ := h
    have hu := hu60 hr
    have hu' := hu61 hr
    refine ⟨_, (rss_cons (rs_asg (r_def D__law_field_by hr rfl passE (ra_cons (rv 0) (ra_cons r_int ra_nil))) (rg_tup rfl (rgs_cons (rg_name (i := 1) sc_law.nd rfl (by first | exact Or.inl rfl | exact Or.inr rfl)) (rgs_cons (rg_name (i := 2) sc_law.nd rfl (by first | exact Or.inl rfl | exact Or.inr rfl)) (rgs_cons (rg_name (i := 3) sc_law.nd rfl (by first | exact Or.inl rfl | exact Or.inr rfl)) rgs_nil))))) (rss_cons (rs_set (i := 4) sc_law.nd rfl (by first | exact Or.inl rfl | exact Or.inr rfl) (r_lst ra_nil)) (rss_cons (rs_for PassesOwn.never rfl (ri_range1 rfl T.b_range (ra_cons (rv 1) ra_nil)) (rg_name (i := 5) sc_law.nd rfl (by first | exact Or.inl rfl | exact Or.inr rfl)) (rss_one (rs_set (i := 4) sc_law.nd rfl (by first | exact Or.inl rfl | exact Or.inr rfl) (r_op op_addG (rv 4) (r_comp (by rfl) rfl (ri_range1 rfl T.b_range (ra_cons (rv 2) ra_nil)) (fun _ _ _ => (rif_one (rt_cmp (op_notin_str.or (k_notInD (K := K) hu')) (r_tup (ra_cons (rv 6) (ra_cons (rv 0) ra_nil))) (rv 4) (by rfl)))) (fun _ _ _ => (r_tup (ra_cons (rv 6) (ra_cons (rv 0) ra_nil))))))))) (rss_cons (rs_if (rt_cmp (op_eq.or (k_eqD (K := K) hu)) (r_callB (k_len (K := K)) rfl T.b_len bt_len (ra_cons (rv 4) ra_nil)) r_int (nomark _)) (rss_one (rs_ret (r_cmp (op_eq.or (k_eqD (K := K) hu)) (r_meth0 N_Game_state hr passE (r_make M_Game hr rfl passE (ra_cons (rv 1) (ra_cons (rv 2) (ra_cons (rv 3) ra_nil))))) r_str (nomark _)))) rss_nil) (rss_cons (rs_set (i := 6) sc_law.nd rfl (by first | exact Or.inl rfl | exact Or.inr rfl) (r_def D__law_cell_at hr rfl passE (ra_cons (rv 0) (ra_cons r_int ra_nil)))) (rss_cons (rs_comp (i := 7) sc_law.nd rfl rfl (by rfl) rfl (ri_range1 rfl T.b_range (ra_cons (r_op op_mod (r_def D__law_cell_at hr rfl passE (ra_cons (rv 0) (ra_cons r_int ra_nil))) r_int) ra_nil)) (fun _ _ _ => rif_nil) (fun _ _ _ => (r_ix (k_ix (K := K)) (rv 5) (r_def D__law_mix hr rfl passE (ra_cons (rv 7) (ra_cons (rv 0) (ra_cons (r_callB (k_len (K := K)) rfl T.b_len bt_len (ra_cons (rv 5) ra_nil)) ra_nil))))))) (rss_cons (rs_par (i := 8) (j := 9) rfl sc_law.nd rfl rfl (by decide) rfl rfl (ra_cons (r_make M_Game hr rfl passE (ra_cons (rv 1) (ra_cons (rv 2) (ra_cons (r_callTy (k_list (K := K)) rfl T.b_list bt_list (ra_cons (rv 3) ra_nil)) ra_nil)))) (ra_cons (r_make M_Game hr rfl passE (ra_cons (rv 1) (ra_cons (rv 2) (ra_cons (r_callTy (k_list (K := K)) rfl T.b_list bt_list (ra_cons (rv 3) ra_nil)) ra_nil)))) ra_nil)) rfl) (rss_cons (rs_set (i := 10) sc_law.nd rfl (by first | exact Or.inl rfl | exact Or.inr rfl) (r_def D__law_played hr rfl passE (ra_cons (rv 8) (ra_cons (rv 7) ra_nil)))) (rss_cons (rs_set (i := 11) sc_law.nd rfl (by first | exact Or.inl rfl | exact Or.inr rfl) (r_op op_mod (r_def D__law_cell_at hr rfl passE (ra_cons (rv 0) (ra_cons r_int ra_nil))) (r_op op_addG (r_callB (k_len (K := K)) rfl T.b_len bt_len (ra_cons (rv 7) ra_nil)) r_int))) (rss_cons (rs_set (i := 12) sc_law.nd rfl (by first | exact Or.inl rfl | exact Or.inr rfl) (r_op op_addG (r_slice (k_sl (K := K)) (rv 7) (ro_some (rv 11)) ro_none) (r_slice (k_sl (K := K)) (rv 7) ro_none (ro_some (rv 11))))) (rss_cons (rs_set (i := 13) sc_law.nd rfl (by first | exact Or.inl rfl | exact Or.inr rfl) (r_def D__law_played hr rfl passE (ra_cons (rv 9) (ra_cons (r_ix (k_ix (K := K)) (r_lst (ra_cons (rv 12) (ra_cons (r_rev (K := K) (rv 12) (r_un un_neg r_int)) ra_nil))) (r_op op_mod (r_def D__law_cell_at hr rfl passE (ra_cons (rv 0) (ra_cons r_int ra_nil))) r_int)) ra_nil)))) (rss_cons (rs_if (rt_b (rb_or (rt_cmp (op_ne.or (k_neD (K := K) hu)) (r_callB (k_sortC (K := K) hu) rfl T.b_sorted bt_sorted (ra_cons (rv 10) ra_nil)) (r_callB (k_sortC (K := K) hu) rfl T.b_sorted bt_sorted (ra_cons (rv 13) ra_nil)) (nomark _)) (rb_or1 (rt_cmp (op_ne.or (k_neD (K := K) hu)) (r_callB (k_lenSet (w := wd)) rfl T.b_len bt_len (ra_cons (r_callTy (k_setC (K := K) (w := wd) rfl hu) rfl T.b_set bt_set (ra_cons (rv 10) ra_nil)) ra_nil)) (r_callB (k_len (K := K)) rfl T.b_len bt_len (ra_cons (rv 10) ra_nil)) (nomark _))))) (rss_one (rs_ret r_bl)) rss_nil) (rss_cons (rs_if (rt_b (rb_or (rt_cmp (op_ne.or (k_neD (K := K) hu)) (kr_fld (K := K) (r_meth0 N_Game_view hr passE (rv 8))) (kr_fld (K := K) (r_meth0 N_Game_view hr passE (rv 9))) (nomark _)) (rb_or1 (rt_cmp (op_ne.or (k_neD (K := K) hu)) (r_meth0 N_Game_state hr passE (rv 8)) (r_meth0 N_Game_state hr passE (rv 9)) (nomark _))))) (rss_one (rs_ret r_bl)) rss_nil) (rss_one (rs_ret (r_cmp (op_eq.or (k_eqD (K := K) hu)) (kr_fld (K := K) (r_meth0 N_Game_view hr passE (r_make M_Game hr rfl passE (ra_cons (rv 1) (ra_cons (rv 2) (ra_cons (r_callTy (k_list (K := K)) rfl T.b_list bt_list (ra_cons (rv 3) ra_nil)) ra_nil)))))) (r_op op_mulG (r_lst (ra_cons (r_op op_mulG r_str (rv 2)) ra_nil)) (rv 1)) (nomark _))))))))))))))))), ?_⟩
    refine seq_mid (fun σ H1 => ∃ (p : Addr) (h w : Nat) (st : List Cell), Same H H1 ∧ Ls K H1 p (st.map cellD) ∧ (1 ≤ h ∧ h ≤ 6) ∧ (1 ≤ w ∧ w ≤ 6) ∧ st.Sublist (fieldL h w) ∧ σ = s14 (.ref a) (.int h) (.int w) (.ref p) none none none none none none none none none none) (fun R hR => ?_) ?_
    · exact ⟨_, rfl, a, ns, 6, rfl, hS, by decide, by decide, fun t p H' h w st s' np hT lp a1 a2 a3 a4 a5 => ⟨t, _, rfl, hT, rfl, _, _, rfl, _, _, rfl, _, _, rfl, rfl, hR _ _ ⟨p, h, w, st, s', lp, ⟨a1, by omega⟩, ⟨a3, by omega⟩, a5, rfl⟩⟩⟩
    rintro σ H1 ⟨p, h, w, st, s1, lp, bh, bw, sub, rfl⟩
    have h6 := bh.2
    have w6 := bw.2
    have hw36 : h * w ≤ 6 * 6 := Nat.mul_le_mul h6 w6
    have fasc := field_asc h (List.mem_range.mpr (by omega)) w (List.mem_range.mpr (by omega))
    have asc : st.Pairwise cellLt := fasc.sublist sub
    have nst : st.Nodup := strict_nodup asc
    have nfl : (fieldL h w).Nodup := strict_nodup fasc
    have lst : st.length ≤ 36 := by
      have := sub.length_le
      rw [field_len] at this
      omega
    have hsz : sizeB (h : Int) (w : Int) = true := size_iff.mpr ⟨by omega, by omega⟩
    have hlay : layB (blankL h w) w st = true := by
      refine lay_of asc fun c hc => ?_
      have hin := mem_field.mp (sub.subset hc)
      show closedB (shownL h w [] []) w c = true
      rw [closed_shown, decide_eq_true hin]; rfl
    refine seq_mid (fun σ H3 => ∃ e, Same H1 H3 ∧ Ls K H3 e [] ∧ σ = s14 (.ref a) (.int h) (.int w) (.ref p) (some (.ref e)) none none none none none none none none none) (fun R hR => ?_) ?_
    · exact ⟨by decide, fun e he => hR _ _ ⟨e, Same.put he, .new he .nil, rfl⟩⟩
    rintro σ H3 ⟨e, s3, le, rfl⟩
    refine seq_mid (fun σ H4 => ∃ (e : Addr) (v5 : Option V), Same H1 H4 ∧ Ls K H4 e ((freeN w st h).map cellD) ∧ σ = s14 (.ref a) (.int h) (.int w) (.ref p) (some (.ref e)) v5 none none none none none none none none) (fun R hR => ?_) ?_
    · refine ⟨_, rfl, _, rfl, by omega, by omega, ?_⟩
      rw [Int.toNat_natCast]
      refine for_range (lo := 0) (n := h) (fun i σ H4 => ∃ (e : Addr) (v5 : Option V), Same H1 H4 ∧ Ls K H4 e ((freeN w st i).map cellD) ∧ σ = s14 (.ref a) (.int h) (.int w) (.ref p) (some (.ref e)) v5 none none none none none none none none) ⟨e, none, s3, le, rfl⟩ (fun i σ H4 hi hh => ?_) (fun σ H4 hh => hR _ _ hh)
      obtain ⟨e, v5, g1, g2, rfl⟩ := hh
      refine ⟨_, rfl, _, rfl, _, rfl, by omega, by omega, ?_⟩
      rw [Int.toNat_natCast]
      have e0 : ∀ c : Nat, ((0 : Int) + (i : Int), (c : Int)) = ((i : Int), (c : Int)) := fun c => by rw [Int.zero_add]
      refine comp_den (K := K) (xs := List.range w) (enc := fun c : Nat => Dt.int (c : Int)) (over_range0 w) (Dens.nats _) (by rw [List.length_range]; exact small (by omega)) (fun c : Nat => !decide (((i : Int), (c : Int)) ∈ st)) (fun c : Nat => cellD ((i : Int), (c : Int))) (fun c hc v H5 s5 D G hG => ?_) (fun c hc _ v H5 s5 D G hG => ?_) (fun ys H5 s5 D q5 hq5 => ?_)
      · cases D
        refine ⟨_, rfl, _, rfl, sz rfl, fun t ht => ⟨_, rfl, .inr (rd_notin den_cell (lp.mono (g1.trans (s5.and ht))).den ⟨_, rfl, ?_⟩)⟩⟩
        rw [e0]; exact hG _ (Same.put ht)
      · cases D
        refine ⟨_, rfl, _, rfl, sz rfl, fun t ht => hG _ _ (Same.put ht) ?_⟩
        rw [← e0]; exact den_cell
      · have l1 := freeN_len w st i
        have l2 : ((List.range w).filter fun c : Nat => !decide (((i : Int), (c : Int)) ∈ st)).length ≤ w := Nat.le_trans (List.length_filter_le _ _) (by rw [List.length_range]; exact Nat.le_refl _)
        have l3 : i * w ≤ 6 * 6 := Nat.mul_le_mul (by omega) w6
        have sq := Same.put (o := .lst ys) hq5
        refine rd_cat (g2.mono (s5.trans sq)) (Ls.new hq5 D) (by rw [List.length_map, List.length_map]; omega) fun r H6 f6 => ⟨r, _, g1.trans (s5.trans (sq.trans f6.same)), ?_, rfl⟩
        rw [freeN_succ, List.map_append, List.map_map]; exact f6.ls
    rintro σ H4 ⟨e, v5, s4, le4, rfl⟩
    obtain ⟨xs, ex, De⟩ := id le4
    have lxs : xs.length = (freeN w st h).length := by rw [De.length, List.length_map]
    refine seq_mid (fun σ H5 => H5 = H4 ∧ 0 < xs.length ∧ σ = s14 (.ref a) (.int h) (.int w) (.ref p) (some (.ref e)) v5 none none none none none none none none) (fun R hR => ?_) ?_
    · refine ⟨_, rfl, .inl ⟨e, _, rfl, .inl (SqL.of ex), ?_⟩⟩
      refine Or.inl ⟨rfl, _, rfl, ?_⟩
      rw [dec_v]
      by_cases hz : xs.length = 0
      · rw [decide_eq_true (by omega)]
        refine iteT ⟨_, rfl, _, rfl, _, rfl, ?_⟩
        dsimp only [tNil]
        refine rd_make (lp.mono s4) lst hsz hlay fun x f hd d H5 nd s5 G => ?_
        obtain ⟨dx, hg⟩ := G.ob
        refine ⟨x, dx, _, rfl, hg, g_none _ _ _ _ (by decide +kernel) (by decide +kernel) (by decide +kernel) (by decide +kernel), ?_⟩
        refine spGState.mk G ?_
        refine Or.inl ⟨rfl, ?_⟩
        have es : stateS h w st [] false = "won" := by
          unfold stateS
          rw [if_neg Bool.false_ne_true, if_pos (free_full sub nfl (List.length_eq_zero_iff.mp (by omega)))]
        rw [es, decide_eq_true rfl]
        exact hq _
      · rw [decide_eq_false (by omega)]
        exact iteF (hR _ _ ⟨rfl, by omega, rfl⟩)
    rintro σ H4 ⟨rfl, hpos, rfl⟩
    refine seq_mid (fun σ H5 => ∃ ck : Int, H5 = H4 ∧ σ = s14 (.ref a) (.int h) (.int w) (.ref p) (some (.ref e)) v5 (some (.int ck)) none none none none none none none) (fun R hR => ?_) ?_
    · exact ⟨_, rfl, a, ns, 10, rfl, by decide, (s1.trans s4).seq hS, fun ck => hR _ _ ⟨ck, rfl, rfl⟩⟩
    rintro σ H4 ⟨ck, rfl, rfl⟩
    refine seq_mid (fun σ H5 => ∃ (l : Addr) (cs : List Cell), Same H4 H5 ∧ Ls K H5 l (cs.map cellD) ∧ cs.length ≤ 8 ∧ (∀ c ∈ cs, inF h w c ∧ c ∉ st) ∧ σ = s14 (.ref a) (.int h) (.int w) (.ref p) (some (.ref e)) v5 (some (.int ck)) (some (.ref l)) none none none none none none) (fun R hR => ?_) ?_
    · refine ⟨_, rfl, a, ns, 11, rfl, by decide, (s1.trans s4).seq hS, fun r => ⟨_, _, rfl, rfl, (by show (0 : Int) < 9; decide), _, rfl, ?_, ?_, ?_⟩⟩
      · have := Int.emod_nonneg r (by decide : (9 : Int) ≠ 0); omega
      · have := Int.emod_lt_of_pos r (by decide : (0 : Int) < 9); omega
      have hb := Int.emod_lt_of_pos r (by decide : (0 : Int) < 9)
      refine comp_range (lo := 0) (n := (r % 9).toNat) (fun i ys H5 => ∃ cs : List Cell, Same H4 H5 ∧ Dens K H5 ys (cs.map cellD) ∧ cs.length = i ∧ ∀ c ∈ cs, inF h w c ∧ c ∉ st) (small (by omega)) (fun i ys H5 _ hh => ?_) ⟨[], Same.refl _, .nil, rfl, fun c hc => by cases hc⟩ (fun i ys H5 hi hh G hG => ?_) (fun ys H5 hh l nl => ?_)
      · obtain ⟨cs, _, D, hl, _⟩ := hh
        rw [D.length, List.length_map, hl]; exact Nat.le_refl _
      · obtain ⟨cs, s5, D, hl, hc⟩ := hh
        refine tyes ⟨_, rfl, _, rfl, _, rfl, _, rfl, .inl ⟨e, _, rfl, .inl (SqL.of (s5 _ _ ex)), _, _, _, rfl, by omega, fun r3 H7 a7 b7 s7 => ?_⟩⟩
        obtain ⟨n, rfl⟩ := Int.eq_ofNat_of_zero_le a7
        have hn : n < xs.length := by omega
        have exn : xs[n]? = some xs[n] := by simp [hn]
        obtain ⟨d, ed, dd⟩ := De.get exn
        rw [List.getElem?_map] at ed
        obtain ⟨x, hx, rfl⟩ := Option.map_eq_some_iff.mp ed
        obtain ⟨hx3, hx4⟩ := List.mem_filter.mp (List.mem_of_getElem? hx)
        refine .inl ⟨e, _, _, _, rfl, rfl, SqL.of ((s5.trans s7) _ _ ex), atI_nat exn, hG _ _ ⟨cs ++ [x], s5.trans s7, ?_, by rw [List.length_append, hl]; rfl, fun c hc' => ?_⟩⟩
        · rw [List.map_append]; exact (D.mono s7).append (.cons (dd.mono (s5.trans s7)) .nil)
        · rcases List.mem_append.mp hc' with z | z
          · exact hc c z
          · rw [List.mem_singleton.mp z]; exact ⟨mem_field.mp hx3, by simpa using hx4⟩
      · obtain ⟨cs, s5, D, hl, hc⟩ := hh
        exact hR _ _ ⟨l, cs, s5.and nl, .new nl D, by omega, hc, rfl⟩
    rintro σ H5 ⟨l, cs, s5, lc, l8, hcs, rfl⟩
    have lp5 := lp.mono (s4.trans s5)
    have hS5 : SqL K H5 a (ns.map V.int) := ((s1.trans s4).trans s5).seq hS
    refine seq_mid (fun σ H6 => ∃ (g1 f1 hd1 d1 g2 f2 hd2 d2 : Addr), Same H5 H6 ∧ GameAt K Z.Game Z.View H6 g1 h w st [] false f1 hd1 d1 ∧ GameAt K Z.Game Z.View H6 g2 h w st [] false f2 hd2 d2 ∧ d1 ≠ d2 ∧ σ = s14 (.ref a) (.int h) (.int w) (.ref p) (some (.ref e)) v5 (some (.int ck)) (some (.ref l)) (some (.ref g1)) (some (.ref g2)) none none none none) (fun R hR => ?_) ?_
    · obtain ⟨us, eu, Du⟩ := id lp5
      refine ⟨_, rfl, _, rfl, _, rfl, p, _, rfl, .inl (SqL.of eu), fun gl ng => ?_⟩
      have sg := Same.put (o := .lst us) ng
      dsimp only [tNil]
      refine rd_make (.new ng Du) lst hsz hlay fun g1 f1 hd1 d1 H6 nd1 s6 G1 => ?_
      refine ⟨_, rfl, _, rfl, _, rfl, p, _, rfl, .inl (SqL.of ((sg.trans s6) _ _ eu)), fun gk nk => ?_⟩
      have sk := Same.put (o := .lst us) nk
      dsimp only [tNil]
      refine rd_make (.new nk (Du.mono (sg.trans s6))) lst hsz hlay fun g2 f2 hd2 d2 H7 nd2 s7 G2 => ?_
      exact ⟨_, _, rfl, hR _ _ ⟨g1, f1, hd1, d1, g2, f2, hd2, d2, (sg.trans s6).trans (sk.trans s7), G1.mono (sk.trans s7), G2, ne_of_none (sk _ _ G1.dc) nd2, rfl⟩⟩
    rintro σ H6 ⟨g1, f1, hd1, d1, g2, f2, hd2, d2, s6, G1, G2, nd, rfl⟩
    refine seq_mid (fun σ H7 => ∃ (q1 : Addr) (kn1 fn1 : List Cell), SameBut d1 H6 H7 ∧ GameAt K Z.Game Z.View H7 g1 h w st kn1 false f1 hd1 d1 ∧ Ls K H7 q1 (fn1.map cellD) ∧ fn1.Perm kn1 ∧ Pl h w st cs kn1 ∧ σ = s14 (.ref a) (.int h) (.int w) (.ref p) (some (.ref e)) v5 (some (.int ck)) (some (.ref l)) (some (.ref g1)) (some (.ref g2)) (some (.ref q1)) none none none) (fun R hR => ?_) ?_
    · exact ⟨_, rfl, _, rfl, g1, l, h, w, st, cs, f1, hd1, d1, rfl, G1, lc.mono s6, by omega, ⟨h6, w6⟩, sub, nst, hcs, fun q H' kn fnd sb G' lq pf pl => hR _ _ ⟨q, kn, fnd, sb, G', lq, pf, pl, rfl⟩⟩
    rintro σ H7 ⟨q1, kn1, fn1, sb7, G17, lq1, pf1, pl1, rfl⟩
    have G27 := but_game G2 sb7 G1.dc nd.symm
    have hS7 := but_seq sb7 G1.dc (s6.seq hS5)
    have lp7 := but_ls sb7 G1.dc (lp5.mono s6)
    obtain ⟨ys, ey, Dy⟩ := but_ls sb7 G1.dc (lc.mono s6)
    have lys : ys.length = cs.length := by rw [Dy.length, List.length_map]
    refine seq_mid (fun σ H8 => ∃ n : Nat, H8 = H7 ∧ n ≤ ys.length ∧ σ = s14 (.ref a) (.int h) (.int w) (.ref p) (some (.ref e)) v5 (some (.int ck)) (some (.ref l)) (some (.ref g1)) (some (.ref g2)) (some (.ref q1)) (some (.int n)) none none) (fun R hR => ?_) ?_
    · refine ⟨_, rfl, a, ns, 12, rfl, by decide, hS7, fun r => ⟨_, rfl, .inl ⟨l, _, rfl, .inl (SqL.of ey), _, _, rfl, rfl, ?_, ?_⟩⟩⟩
      · show (0 : Int) < (ys.length : Int) + 1; omega
      · have h0 := Int.emod_nonneg r (show ((ys.length : Int) + 1) ≠ 0 by omega)
        have h1 := Int.emod_lt_of_pos r (show (0 : Int) < (ys.length : Int) + 1 by omega)
        obtain ⟨n, en⟩ := Int.eq_ofNat_of_zero_le h0
        exact hR _ _ ⟨n, rfl, by omega, by dsimp only; rw [en]; rfl⟩
    rintro σ H7 ⟨n, rfl, hn, rfl⟩
    refine seq_mid (fun σ H8 => ∃ (o : Addr) (os : List Cell), Same H7 H8 ∧ Ls K H8 o (os.map cellD) ∧ (∀ y, y ∈ os ↔ y ∈ cs) ∧ os.length = cs.length ∧ σ = s14 (.ref a) (.int h) (.int w) (.ref p) (some (.ref e)) v5 (some (.int ck)) (some (.ref l)) (some (.ref g1)) (some (.ref g2)) (some (.ref q1)) (some (.int n)) (some (.ref o)) none) (fun R hR => ?_) ?_
    · refine ⟨_, rfl, _, rfl, _, rfl, .inl ⟨l, _, rfl, SqL.of ey, fun p1 n1 => ?_⟩⟩
      rw [cut_from]
      have t1 := Same.put (o := .lst (ys.drop n)) n1
      refine ⟨_, rfl, _, rfl, _, rfl, .inl ⟨l, _, rfl, SqL.of (t1 _ _ ey), fun p2 n2 => ?_⟩⟩
      rw [cut_to hn]
      have t2 := Same.put (o := .lst (ys.take n)) n2
      refine rd_cat (K := K) ((Ls.new n1 (by rw [List.map_drop]; exact dens_drop n Dy : Dens K H7 (ys.drop n) ((cs.drop n).map cellD))).mono t2) (Ls.new n2 (by rw [List.map_take]; exact dens_take n (Dy.mono t1) : Dens K _ (ys.take n) ((cs.take n).map cellD))) ?_ fun o H8 fr => ?_
      · rw [List.length_map, List.length_map, List.length_drop, List.length_take]; omega
      · rw [← List.map_append] at fr
        refine hR _ _ ⟨o, _, (t1.trans t2).trans fr.same, fr.ls, fun y => ?_, ?_, rfl⟩
        · rw [List.mem_append, or_comm, ← List.mem_append, List.take_append_drop]
        · rw [List.length_append, List.length_drop, List.length_take]; omega
    rintro σ H8 ⟨o, os, s8, lo, mo, lno, rfl⟩
    have G18 := G17.mono s8
    have G28 := G27.mono s8
    refine seq_mid (fun σ H9 => ∃ (q2 : Addr) (kn2 fn2 os' : List Cell), SameBut d2 H8 H9 ∧ GameAt K Z.Game Z.View H9 g2 h w st kn2 false f2 hd2 d2 ∧ Ls K H9 q2 (fn2.map cellD) ∧ fn2.Perm kn2 ∧ (∀ y, y ∈ os' ↔ y ∈ cs) ∧ Pl h w st os' kn2 ∧ σ = s14 (.ref a) (.int h) (.int w) (.ref p) (some (.ref e)) v5 (some (.int ck)) (some (.ref l)) (some (.ref g1)) (some (.ref g2)) (some (.ref q1)) (some (.int n)) (some (.ref o)) (some (.ref q2))) (fun R hR => ?_) ?_
    · obtain ⟨zs, ez, Dz⟩ := id lo
      refine ⟨_, rfl, _, rfl, _, rfl, _, rfl, rfl, o, _, rfl, SqL.of ez, fun p1 n1 => ⟨sz rfl, fun p2 n2 => ?_⟩⟩
      have t1 := Same.put (o := .lst zs.reverse) n1
      have t2 := Same.put (o := .lst [V.ref o, V.ref p1]) n2
      have lr : Ls K _ p1 (os.reverse.map cellD) := Ls.new n1 (by rw [List.map_reverse]; exact dens_rev Dz)
      refine ⟨_, rfl, a, ns, 13, rfl, by decide, (s8.trans (t1.trans t2)).seq hS7, fun r => ⟨_, _, rfl, rfl, (by show (0 : Int) < 2; decide), ?_⟩⟩
      have pick : ∃ (j : Nat) (b : Addr) (os' : List Cell), r % 2 = (j : Int) ∧ ([V.ref o, V.ref p1])[j]? = some (.ref b) ∧ Ls K (upd (upd H8 p1 (.lst zs.reverse)) p2 (.lst [V.ref o, V.ref p1])) b (os'.map cellD) ∧ (∀ y, y ∈ os' ↔ y ∈ cs) ∧ os'.length = cs.length := by
        rcases Int.emod_two_eq r with z | z
        · exact ⟨0, o, os, z, rfl, lo.mono (t1.trans t2), mo, lno⟩
        · exact ⟨1, p1, os.reverse, z, rfl, lr.mono t2, fun y => by rw [List.mem_reverse]; exact mo y, by rw [List.length_reverse]; exact lno⟩
      obtain ⟨j, b, os', ej, ebj, lb, mb, lnb⟩ := pick
      dsimp only [tNil]
      rw [ej]
      refine Or.inl ⟨p2, _, _, _, rfl, rfl, .of upd_same, atI_nat ebj, ?_⟩
      exact ⟨g2, b, h, w, st, os', f2, hd2, d2, rfl, G28.mono (t1.trans t2), lb, by omega, ⟨h6, w6⟩, sub, nst, fun c hc => hcs c ((mb c).mp hc), fun q H' kn fnd sb G' lq pf pl => hR _ _ ⟨q, kn, fnd, os', ((t1.trans t2).but d2).trans sb, G', lq, pf, mb, pl, rfl⟩⟩
    rintro σ H9 ⟨q2, kn2, fn2, os', sb9, G29, lq2, pf2, mo', pl2, rfl⟩
    have G19 := but_game G18 sb9 G28.dc nd
    have lq19 := but_ls sb9 G28.dc (lq1.mono s8)
    have lp9 := but_ls sb9 G28.dc (lp7.mono s8)
    have hos' : ∀ c ∈ os', inF h w c ∧ c ∉ st := fun c hc => hcs c ((mo' c).mp hc)
    have k1 := pl1.len hcs h6 w6
    have k2 := pl2.len hos' h6 w6
    have same : ∀ y, y ∈ kn1 ↔ y ∈ kn2 := fun y => by
      rw [pl1.mem y, pl2.mem y]
      exact ⟨fun ⟨c, hc, r⟩ => ⟨c, (mo' c).mpr hc, r⟩, fun ⟨c, hc, r⟩ => ⟨c, (mo' c).mp hc, r⟩⟩
    have pk : kn1.Perm kn2 := (List.perm_ext_iff_of_nodup pl1.nd pl2.nd).mpr same
    have nf1 : fn1.Nodup := pf1.nodup_iff.mpr pl1.nd
    have nf2 : fn2.Nodup := pf2.nodup_iff.mpr pl2.nd
    have lf1 := pf1.length_eq
    have lf2 := pf2.length_eq
    obtain ⟨us1, eu1, Du1⟩ := id lq19
    obtain ⟨us2, eu2, Du2⟩ := id lq2
    have lus1 : us1.length = fn1.length := by rw [Du1.length, List.length_map]
    refine seq_mid (fun σ H10 => Same H9 H10 ∧ σ = s14 (.ref a) (.int h) (.int w) (.ref p) (some (.ref e)) v5 (some (.int ck)) (some (.ref l)) (some (.ref g1)) (some (.ref g2)) (some (.ref q1)) (some (.int n)) (some (.ref o)) (some (.ref q2))) (fun R hR => ?_) ?_
    · refine ⟨_, rfl, q1, us1, fn1, rfl, SqL.of eu1, Du1, by omega, fun l1 ws1 ds1 n1 _ D1 p1 as1 => ?_⟩
      have t1 := Same.put (o := .lst ws1) n1
      refine ⟨_, rfl, q2, us2, fn2, rfl, SqL.of (t1 _ _ eu2), Du2.mono t1, by omega, fun l2 ws2 ds2 n2 _ D2 p2 as2 => ?_⟩
      have t2 := Same.put (o := .lst ws2) n2
      have ed : ds1 = ds2 := asc_eq (asc_strict as1 (p1.nodup_iff.mpr nf1)) (asc_strict as2 (p2.nodup_iff.mpr nf2)) fun y => by
        rw [p1.mem_iff, p2.mem_iff, pf1.mem_iff, pf2.mem_iff]; exact same y
      subst ed
      refine .inr ⟨.lst (ds1.map cellD), .lst (ds1.map cellD), rfl, ((Ls.new n1 D1).mono t2).den, (Ls.new n2 D2).den, shD_refl _, dep_cells ds1, _, rfl, ?_⟩
      show if (!eqD _ _) = true then _ else _
      rw [eqD_refl]
      refine iteF ?_
      have t12 := t1.trans t2
      refine ⟨_, rfl, q1, fn1, rfl, lq19.mono t12, by omega, fun c hc => in_all66 h6 w6 (pl1.free hcs (pf1.mem_iff.mp hc)).1, nf1, fun sa na => ?_⟩
      have t3 := Same.put (o := setOC wd sa fn1) na
      refine ⟨sa, fn1, rfl, upd_same, by omega, ?_⟩
      refine ⟨_, rfl, .inl ⟨q1, _, rfl, .inl (SqL.of (t3 _ _ (t12 _ _ eu1))), ?_⟩⟩
      refine Or.inl ⟨rfl, _, rfl, ?_⟩
      rw [lus1, decide_eq_true rfl]
      exact iteF (hR _ _ ⟨t12.trans t3, rfl⟩)
    rintro σ H10 ⟨s10, rfl⟩
    have G1a := G19.mono s10
    have G2a := G29.mono s10
    refine seq_mid (fun σ H11 => Same H10 H11 ∧ σ = s14 (.ref a) (.int h) (.int w) (.ref p) (some (.ref e)) v5 (some (.int ck)) (some (.ref l)) (some (.ref g1)) (some (.ref g2)) (some (.ref q1)) (some (.int n)) (some (.ref o)) (some (.ref q2))) (fun R hR => ?_) ?_
    · obtain ⟨dx1, hg1⟩ := G1a.ob
      refine ⟨_, rfl, g1, dx1, _, rfl, hg1, g_none _ _ _ _ (by decide +kernel) (by decide +kernel) (by decide +kernel) (by decide +kernel), ?_⟩
      dsimp only [tNil]
      refine spGView.mk G1a fun x1 Ha nx1 sa vt1 => ?_
      obtain ⟨dy1, ly1, ex1, el1⟩ := vt1.ob
      refine ⟨x1, Z.View, dy1, _, _, rfl, ex1, T.cl_View, T.n_View_rows, f_rows _ _ _, ?_⟩
      have G2b := G2a.mono sa
      obtain ⟨dx2, hg2⟩ := G2b.ob
      refine ⟨_, rfl, g2, dx2, _, rfl, hg2, g_none _ _ _ _ (by decide +kernel) (by decide +kernel) (by decide +kernel) (by decide +kernel), ?_⟩
      dsimp only [tNil]
      refine spGView.mk G2b fun x2 Hb nx2 sb vt2 => ?_
      obtain ⟨dy2, ly2, ex2, el2⟩ := vt2.ob
      refine ⟨x2, Z.View, dy2, _, _, rfl, ex2, T.cl_View, T.n_View_rows, f_rows _ _ _, ?_⟩
      rw [← shown_congr same] at el2
      refine .inr ⟨_, _, rfl, den_txt (sb _ _ el1), den_txt el2, shD_refl _, dep_lst _, _, rfl, ?_⟩
      show if (!eqD _ _) = true then _ else _
      rw [eqD_refl]
      refine iteF ?_
      have G1c := G1a.mono (sa.trans sb)
      have G2c := G2b.mono sb
      obtain ⟨dx3, hg3⟩ := G1c.ob
      obtain ⟨dx4, hg4⟩ := G2c.ob
      refine ⟨_, rfl, g1, dx3, _, rfl, hg3, g_none _ _ _ _ (by decide +kernel) (by decide +kernel) (by decide +kernel) (by decide +kernel), ?_⟩
      dsimp only [tNil]
      refine spGState.mk G1c ?_
      refine ⟨_, rfl, g2, dx4, _, rfl, hg4, g_none _ _ _ _ (by decide +kernel) (by decide +kernel) (by decide +kernel) (by decide +kernel), ?_⟩
      dsimp only [tNil]
      refine spGState.mk G2c ?_
      have es : stateS h w st kn2 false = stateS h w st kn1 false := by unfold stateS; rw [pk.length_eq]
      rw [es]
      refine Or.inl ⟨rfl, _, rfl, ?_⟩
      rw [decide_eq_true rfl]
      exact iteF (hR _ _ ⟨sa.trans sb, rfl⟩)
    rintro σ H11 ⟨s11, rfl⟩
    obtain ⟨us, eu, Du⟩ := lp9.mono (s10.trans s11)
    refine ⟨_, rfl, _, rfl, _, rfl, p, _, rfl, .inl (SqL.of eu), fun gl ng => ?_⟩
    dsimp only [tNil]
    refine rd_make (.new ng Du) lst hsz hlay fun g3 f3 hd3 d3 H12 nd3 s12 G3 => ?_
    obtain ⟨dx, hg⟩ := G3.ob
    refine ⟨g3, dx, _, rfl, hg, g_none _ _ _ _ (by decide +kernel) (by decide +kernel) (by decide +kernel) (by decide +kernel), ?_⟩
    refine spGView.mk G3 fun y Hc ny sc vt => ?_
    obtain ⟨dy, ly, e1, e2⟩ := vt.ob
    rw [shown_nil] at e1 e2
    refine ⟨y, Z.View, dy, _, _, rfl, e1, T.cl_View, T.n_View_rows, f_rows _ _ _, ?_⟩
    refine ⟨_, rfl, by decide, by omega, by omega, sz rfl, fun p1 n1 => ?_⟩
    refine ⟨_, rfl, _, upd_same, by omega, by omega, small (by show 1 * _ ≤ 10000; omega), fun p2 n2 => ?_⟩
    have eL : (List.replicate ((h : Nat) : Int).toNat [V.str (repS "#" (w : Int))]).flatten = (blankL h w).map V.str := by rw [Int.toNat_natCast, flat_one, blank_eq h w bw.1 bw.2]
    rw [eL]
    have t1 := Same.put (o := .lst [V.str (repS "#" (w : Int))]) n1
    have t2 := Same.put (o := .lst ((blankL h w).map V.str)) n2
    refine .inr ⟨_, _, rfl, den_txt ((t1.trans t2) _ _ e2), den_txt upd_same, shD_refl _, dep_lst _, ?_⟩
    show Q (.bl (eqD _ _)) _
    rw [eqD_refl]
    exact hq _
end
end My
set_option Elab.async false
set_option linter.all false
set_option maxRecDepth 100000
set_option maxHeartbeats 4000000
namespace My
open PySem L2
theorem all_mk {l : PySem.W.OpenLaw} {w : World} {K : PySem.W.Frag} {h : Heap} {mg : Str → Option Value} {fa : Addr} (X : K.In h) (G : h.Ns mainGlobals mg) (hfa : mg "law" = some (.ref fa))
    {Z_FieldError : Addr}
    {Z_BadView : Addr}
    {Z_BadLaying : Addr}
    {Z_NoCell : Addr}
    {Z_Over : Addr}
    {Z_View : Addr}
    {f_View___init__ : Addr} {od_View___init__ an_View___init__ : Option Addr} {sl_View___init__ : Array (Option Value)} {oc_View___init__ kV_View___init__ dc_View___init__ pm_View___init__ cd_View___init__ ct_View___init__ : Value}
    {Z_Game : Addr}
    {f_Game___init__ : Addr} {od_Game___init__ an_Game___init__ : Option Addr} {sl_Game___init__ : Array (Option Value)} {oc_Game___init__ kV_Game___init__ dc_Game___init__ pm_Game___init__ cd_Game___init__ ct_Game___init__ : Value}
    {f_Game_uncover : Addr} {od_Game_uncover an_Game_uncover : Option Addr} {sl_Game_uncover : Array (Option Value)} {oc_Game_uncover kV_Game_uncover dc_Game_uncover pm_Game_uncover cd_Game_uncover ct_Game_uncover : Value}
    {f_Game_view : Addr} {od_Game_view an_Game_view : Option Addr} {sl_Game_view : Array (Option Value)} {oc_Game_view kV_Game_view dc_Game_view pm_Game_view cd_Game_view ct_Game_view : Value}
    {f_Game_state : Addr} {od_Game_state an_Game_state : Option Addr} {sl_Game_state : Array (Option Value)} {oc_Game_state kV_Game_state dc_Game_state pm_Game_state cd_Game_state ct_Game_state : Value}
    {t_MOST_ROWS : Tok}
    {t_MOST_COLUMNS : Tok}
    {t_CLOSED_SIGN : Tok}
    {t_SIGNS : Tok}
    {f__law_cell_at : Addr} {od__law_cell_at an__law_cell_at : Option Addr} {sl__law_cell_at : Array (Option Value)} {oc__law_cell_at kV__law_cell_at dc__law_cell_at pm__law_cell_at cd__law_cell_at ct__law_cell_at : Value}
    {f__law_mix : Addr} {od__law_mix an__law_mix : Option Addr} {sl__law_mix : Array (Option Value)} {oc__law_mix kV__law_mix dc__law_mix pm__law_mix cd__law_mix ct__law_mix : Value}
    {f__law_field_by : Addr} {od__law_field_by an__law_field_by : Option Addr} {sl__law_field_by : Array (Option Value)} {oc__law_field_by kV__law_field_by dc__law_field_by pm__law_field_by cd__law_field_by ct__law_field_by : Value}
    {f_is_row : Addr} {od_is_row an_is_row : Option Addr} {sl_is_row : Array (Option Value)} {oc_is_row kV_is_row dc_is_row pm_is_row cd_is_row ct_is_row : Value}
    {f_is_size : Addr} {od_is_size an_is_size : Option Addr} {sl_is_size : Array (Option Value)} {oc_is_size kV_is_size dc_is_size pm_is_size cd_is_size ct_is_size : Value}
    {f_is_view : Addr} {od_is_view an_is_view : Option Addr} {sl_is_view : Array (Option Value)} {oc_is_view kV_is_view dc_is_view pm_is_view cd_is_view ct_is_view : Value}
    {f_has_cell : Addr} {od_has_cell an_has_cell : Option Addr} {sl_has_cell : Array (Option Value)} {oc_has_cell kV_has_cell dc_has_cell pm_has_cell cd_has_cell ct_has_cell : Value}
    {f_is_closed : Addr} {od_is_closed an_is_closed : Option Addr} {sl_is_closed : Array (Option Value)} {oc_is_closed kV_is_closed dc_is_closed pm_is_closed cd_is_closed ct_is_closed : Value}
    {f_near : Addr} {od_near an_near : Option Addr} {sl_near : Array (Option Value)} {oc_near kV_near dc_near pm_near cd_near ct_near : Value}
    {f_is_laying : Addr} {od_is_laying an_is_laying : Option Addr} {sl_is_laying : Array (Option Value)} {oc_is_laying kV_is_laying dc_is_laying pm_is_laying cd_is_laying ct_is_laying : Value}
    {f_stones_near : Addr} {od_stones_near an_stones_near : Option Addr} {sl_stones_near : Array (Option Value)} {oc_stones_near kV_stones_near dc_stones_near pm_stones_near cd_stones_near ct_stones_near : Value}
    {f__law_played : Addr} {od__law_played an__law_played : Option Addr} {sl__law_played : Array (Option Value)} {oc__law_played kV__law_played dc__law_played pm__law_played cd__law_played ct__law_played : Value}
    {f_law : Addr} {od_law an_law : Option Addr} {sl_law : Array (Option Value)} {oc_law kV_law dc_law pm_law cd_law ct_law : Value}
    (a_FieldError : PySem.W.nsIn K mainGlobals "FieldError" = some (some (.ref Z_FieldError)))
    (x_FieldError : PySem.W.excIn K Z_FieldError [.type "ValueError", .type "Exception", .type "BaseException", .type "object"] "ValueError.__new__" = true)
    (a_BadView : PySem.W.nsIn K mainGlobals "BadView" = some (some (.ref Z_BadView)))
    (x_BadView : PySem.W.excIn K Z_BadView [.type "ValueError", .type "Exception", .type "BaseException", .type "object"] "ValueError.__new__" = true)
    (a_BadLaying : PySem.W.nsIn K mainGlobals "BadLaying" = some (some (.ref Z_BadLaying)))
    (x_BadLaying : PySem.W.excIn K Z_BadLaying [.type "ValueError", .type "Exception", .type "BaseException", .type "object"] "ValueError.__new__" = true)
    (a_NoCell : PySem.W.nsIn K mainGlobals "NoCell" = some (some (.ref Z_NoCell)))
    (x_NoCell : PySem.W.excIn K Z_NoCell [.type "ValueError", .type "Exception", .type "BaseException", .type "object"] "ValueError.__new__" = true)
    (a_Over : PySem.W.nsIn K mainGlobals "Over" = some (some (.ref Z_Over)))
    (x_Over : PySem.W.excIn K Z_Over [.type "ValueError", .type "Exception", .type "BaseException", .type "object"] "ValueError.__new__" = true)
    (a_View : PySem.W.nsIn K mainGlobals "View" = some (some (.ref Z_View)))
    (a_View___init__ : PySem.W.findIn K (.ref Z_View) "__init__" = some (some (.ref f_View___init__)))
    (l_View___init__ : K.lookup f_View___init__ = some ⟨oc_View___init__, od_View___init__, .func (PySem.W.fnOf "__init__" "View.__init__" (defArgs s_View___init__) (defBody s_View___init__) (defScope s_View___init__) .none kV_View___init__ dc_View___init__ pm_View___init__ an_View___init__ cd_View___init__ ct_View___init__), sl_View___init__⟩)
    (c_View___init__ : PySem.W.codeIn K cd_View___init__ "View.__init__" = true)
    (k_View___init__ : PySem.W.keepIn K (.ref f_View___init__) = true)
    (i_View___init__ : PySem.W.isFn K (.ref f_View___init__) = true)
    (pg_View : PySem.W.plainGet K Z_View Str.empty = true)
    (hd_View : PySem.W.hasDictIn K Z_View = true)
    (po_View : PySem.W.plainOver K Z_View = true)
    (sa_View : PySem.W.findIn K (.ref Z_View) "__setattr__" = some (some (.builtin "object.__setattr__")))
    (mk_View : PySem.W.makesIn K Z_View = true)
    (kc_View : PySem.W.keepIn K (.ref Z_View) = true)
    (n_View_rows : PySem.W.findIn K (.ref Z_View) "rows" = some none)
    (n_View_height : PySem.W.findIn K (.ref Z_View) "height" = some none)
    (n_View_width : PySem.W.findIn K (.ref Z_View) "width" = some none)
    (a_Game : PySem.W.nsIn K mainGlobals "Game" = some (some (.ref Z_Game)))
    (a_Game___init__ : PySem.W.findIn K (.ref Z_Game) "__init__" = some (some (.ref f_Game___init__)))
    (l_Game___init__ : K.lookup f_Game___init__ = some ⟨oc_Game___init__, od_Game___init__, .func (PySem.W.fnOf "__init__" "Game.__init__" (defArgs s_Game___init__) (defBody s_Game___init__) (defScope s_Game___init__) .none kV_Game___init__ dc_Game___init__ pm_Game___init__ an_Game___init__ cd_Game___init__ ct_Game___init__), sl_Game___init__⟩)
    (c_Game___init__ : PySem.W.codeIn K cd_Game___init__ "Game.__init__" = true)
    (k_Game___init__ : PySem.W.keepIn K (.ref f_Game___init__) = true)
    (i_Game___init__ : PySem.W.isFn K (.ref f_Game___init__) = true)
    (a_Game_uncover : PySem.W.findIn K (.ref Z_Game) "uncover" = some (some (.ref f_Game_uncover)))
    (l_Game_uncover : K.lookup f_Game_uncover = some ⟨oc_Game_uncover, od_Game_uncover, .func (PySem.W.fnOf "uncover" "Game.uncover" (defArgs s_Game_uncover) (defBody s_Game_uncover) (defScope s_Game_uncover) .none kV_Game_uncover dc_Game_uncover pm_Game_uncover an_Game_uncover cd_Game_uncover ct_Game_uncover), sl_Game_uncover⟩)
    (c_Game_uncover : PySem.W.codeIn K cd_Game_uncover "Game.uncover" = true)
    (k_Game_uncover : PySem.W.keepIn K (.ref f_Game_uncover) = true)
    (i_Game_uncover : PySem.W.isFn K (.ref f_Game_uncover) = true)
    (a_Game_view : PySem.W.findIn K (.ref Z_Game) "view" = some (some (.ref f_Game_view)))
    (l_Game_view : K.lookup f_Game_view = some ⟨oc_Game_view, od_Game_view, .func (PySem.W.fnOf "view" "Game.view" (defArgs s_Game_view) (defBody s_Game_view) (defScope s_Game_view) .none kV_Game_view dc_Game_view pm_Game_view an_Game_view cd_Game_view ct_Game_view), sl_Game_view⟩)
    (c_Game_view : PySem.W.codeIn K cd_Game_view "Game.view" = true)
    (k_Game_view : PySem.W.keepIn K (.ref f_Game_view) = true)
    (i_Game_view : PySem.W.isFn K (.ref f_Game_view) = true)
    (a_Game_state : PySem.W.findIn K (.ref Z_Game) "state" = some (some (.ref f_Game_state)))
    (l_Game_state : K.lookup f_Game_state = some ⟨oc_Game_state, od_Game_state, .func (PySem.W.fnOf "state" "Game.state" (defArgs s_Game_state) (defBody s_Game_state) (defScope s_Game_state) .none kV_Game_state dc_Game_state pm_Game_state an_Game_state cd_Game_state ct_Game_state), sl_Game_state⟩)
    (c_Game_state : PySem.W.codeIn K cd_Game_state "Game.state" = true)
    (k_Game_state : PySem.W.keepIn K (.ref f_Game_state) = true)
    (i_Game_state : PySem.W.isFn K (.ref f_Game_state) = true)
    (pg_Game : PySem.W.plainGet K Z_Game Str.empty = true)
    (hd_Game : PySem.W.hasDictIn K Z_Game = true)
    (po_Game : PySem.W.plainOver K Z_Game = true)
    (sa_Game : PySem.W.findIn K (.ref Z_Game) "__setattr__" = some (some (.builtin "object.__setattr__")))
    (mk_Game : PySem.W.makesIn K Z_Game = true)
    (kc_Game : PySem.W.keepIn K (.ref Z_Game) = true)
    (n_Game_field : PySem.W.findIn K (.ref Z_Game) "field" = some none)
    (n_Game_hidden : PySem.W.findIn K (.ref Z_Game) "hidden" = some none)
    (n_Game_figures : PySem.W.findIn K (.ref Z_Game) "figures" = some none)
    (n_Game_lost : PySem.W.findIn K (.ref Z_Game) "lost" = some none)
    (g_MOST_ROWS : PySem.W.nsIn K mainGlobals "MOST_ROWS" = some (some (.int 6 t_MOST_ROWS)))
    (g_MOST_COLUMNS : PySem.W.nsIn K mainGlobals "MOST_COLUMNS" = some (some (.int 6 t_MOST_COLUMNS)))
    (g_CLOSED_SIGN : PySem.W.nsIn K mainGlobals "CLOSED_SIGN" = some (some (.str "#" t_CLOSED_SIGN)))
    (g_SIGNS : PySem.W.nsIn K mainGlobals "SIGNS" = some (some (.str "#012345678" t_SIGNS)))
    (z_all : PySem.W.nsIn K mainGlobals "all" = some none)
    (z_int : PySem.W.nsIn K mainGlobals "int" = some none)
    (z_len : PySem.W.nsIn K mainGlobals "len" = some none)
    (z_list : PySem.W.nsIn K mainGlobals "list" = some none)
    (z_max : PySem.W.nsIn K mainGlobals "max" = some none)
    (z_min : PySem.W.nsIn K mainGlobals "min" = some none)
    (z_range : PySem.W.nsIn K mainGlobals "range" = some none)
    (z_set : PySem.W.nsIn K mainGlobals "set" = some none)
    (z_sorted : PySem.W.nsIn K mainGlobals "sorted" = some none)
    (z_str : PySem.W.nsIn K mainGlobals "str" = some none)
    (a__law_cell_at : PySem.W.nsIn K mainGlobals "_law_cell_at" = some (some (.ref f__law_cell_at)))
    (l__law_cell_at : K.lookup f__law_cell_at = some ⟨oc__law_cell_at, od__law_cell_at, .func (PySem.W.fnOf "_law_cell_at" "_law_cell_at" (defArgs s__law_cell_at) (defBody s__law_cell_at) (defScope s__law_cell_at) .none kV__law_cell_at dc__law_cell_at pm__law_cell_at an__law_cell_at cd__law_cell_at ct__law_cell_at), sl__law_cell_at⟩)
    (c__law_cell_at : PySem.W.codeIn K cd__law_cell_at "_law_cell_at" = true)
    (k__law_cell_at : PySem.W.keepIn K (.ref f__law_cell_at) = true)
    (a__law_mix : PySem.W.nsIn K mainGlobals "_law_mix" = some (some (.ref f__law_mix)))
    (l__law_mix : K.lookup f__law_mix = some ⟨oc__law_mix, od__law_mix, .func (PySem.W.fnOf "_law_mix" "_law_mix" (defArgs s__law_mix) (defBody s__law_mix) (defScope s__law_mix) .none kV__law_mix dc__law_mix pm__law_mix an__law_mix cd__law_mix ct__law_mix), sl__law_mix⟩)
    (c__law_mix : PySem.W.codeIn K cd__law_mix "_law_mix" = true)
    (k__law_mix : PySem.W.keepIn K (.ref f__law_mix) = true)
    (a__law_field_by : PySem.W.nsIn K mainGlobals "_law_field_by" = some (some (.ref f__law_field_by)))
    (l__law_field_by : K.lookup f__law_field_by = some ⟨oc__law_field_by, od__law_field_by, .func (PySem.W.fnOf "_law_field_by" "_law_field_by" (defArgs s__law_field_by) (defBody s__law_field_by) (defScope s__law_field_by) .none kV__law_field_by dc__law_field_by pm__law_field_by an__law_field_by cd__law_field_by ct__law_field_by), sl__law_field_by⟩)
    (c__law_field_by : PySem.W.codeIn K cd__law_field_by "_law_field_by" = true)
    (k__law_field_by : PySem.W.keepIn K (.ref f__law_field_by) = true)
    (a_is_row : PySem.W.nsIn K mainGlobals "is_row" = some (some (.ref f_is_row)))
    (l_is_row : K.lookup f_is_row = some ⟨oc_is_row, od_is_row, .func (PySem.W.fnOf "is_row" "is_row" (defArgs s_is_row) (defBody s_is_row) (defScope s_is_row) .none kV_is_row dc_is_row pm_is_row an_is_row cd_is_row ct_is_row), sl_is_row⟩)
    (c_is_row : PySem.W.codeIn K cd_is_row "is_row" = true)
    (k_is_row : PySem.W.keepIn K (.ref f_is_row) = true)
    (a_is_size : PySem.W.nsIn K mainGlobals "is_size" = some (some (.ref f_is_size)))
    (l_is_size : K.lookup f_is_size = some ⟨oc_is_size, od_is_size, .func (PySem.W.fnOf "is_size" "is_size" (defArgs s_is_size) (defBody s_is_size) (defScope s_is_size) .none kV_is_size dc_is_size pm_is_size an_is_size cd_is_size ct_is_size), sl_is_size⟩)
    (c_is_size : PySem.W.codeIn K cd_is_size "is_size" = true)
    (k_is_size : PySem.W.keepIn K (.ref f_is_size) = true)
    (a_is_view : PySem.W.nsIn K mainGlobals "is_view" = some (some (.ref f_is_view)))
    (l_is_view : K.lookup f_is_view = some ⟨oc_is_view, od_is_view, .func (PySem.W.fnOf "is_view" "is_view" (defArgs s_is_view) (defBody s_is_view) (defScope s_is_view) .none kV_is_view dc_is_view pm_is_view an_is_view cd_is_view ct_is_view), sl_is_view⟩)
    (c_is_view : PySem.W.codeIn K cd_is_view "is_view" = true)
    (k_is_view : PySem.W.keepIn K (.ref f_is_view) = true)
    (a_has_cell : PySem.W.nsIn K mainGlobals "has_cell" = some (some (.ref f_has_cell)))
    (l_has_cell : K.lookup f_has_cell = some ⟨oc_has_cell, od_has_cell, .func (PySem.W.fnOf "has_cell" "has_cell" (defArgs s_has_cell) (defBody s_has_cell) (defScope s_has_cell) .none kV_has_cell dc_has_cell pm_has_cell an_has_cell cd_has_cell ct_has_cell), sl_has_cell⟩)
    (c_has_cell : PySem.W.codeIn K cd_has_cell "has_cell" = true)
    (k_has_cell : PySem.W.keepIn K (.ref f_has_cell) = true)
    (a_is_closed : PySem.W.nsIn K mainGlobals "is_closed" = some (some (.ref f_is_closed)))
    (l_is_closed : K.lookup f_is_closed = some ⟨oc_is_closed, od_is_closed, .func (PySem.W.fnOf "is_closed" "is_closed" (defArgs s_is_closed) (defBody s_is_closed) (defScope s_is_closed) .none kV_is_closed dc_is_closed pm_is_closed an_is_closed cd_is_closed ct_is_closed), sl_is_closed⟩)
    (c_is_closed : PySem.W.codeIn K cd_is_closed "is_closed" = true)
    (k_is_closed : PySem.W.keepIn K (.ref f_is_closed) = true)
    (a_near : PySem.W.nsIn K mainGlobals "near" = some (some (.ref f_near)))
    (l_near : K.lookup f_near = some ⟨oc_near, od_near, .func (PySem.W.fnOf "near" "near" (defArgs s_near) (defBody s_near) (defScope s_near) .none kV_near dc_near pm_near an_near cd_near ct_near), sl_near⟩)
    (c_near : PySem.W.codeIn K cd_near "near" = true)
    (k_near : PySem.W.keepIn K (.ref f_near) = true)
    (a_is_laying : PySem.W.nsIn K mainGlobals "is_laying" = some (some (.ref f_is_laying)))
    (l_is_laying : K.lookup f_is_laying = some ⟨oc_is_laying, od_is_laying, .func (PySem.W.fnOf "is_laying" "is_laying" (defArgs s_is_laying) (defBody s_is_laying) (defScope s_is_laying) .none kV_is_laying dc_is_laying pm_is_laying an_is_laying cd_is_laying ct_is_laying), sl_is_laying⟩)
    (c_is_laying : PySem.W.codeIn K cd_is_laying "is_laying" = true)
    (k_is_laying : PySem.W.keepIn K (.ref f_is_laying) = true)
    (a_stones_near : PySem.W.nsIn K mainGlobals "stones_near" = some (some (.ref f_stones_near)))
    (l_stones_near : K.lookup f_stones_near = some ⟨oc_stones_near, od_stones_near, .func (PySem.W.fnOf "stones_near" "stones_near" (defArgs s_stones_near) (defBody s_stones_near) (defScope s_stones_near) .none kV_stones_near dc_stones_near pm_stones_near an_stones_near cd_stones_near ct_stones_near), sl_stones_near⟩)
    (c_stones_near : PySem.W.codeIn K cd_stones_near "stones_near" = true)
    (k_stones_near : PySem.W.keepIn K (.ref f_stones_near) = true)
    (a__law_played : PySem.W.nsIn K mainGlobals "_law_played" = some (some (.ref f__law_played)))
    (l__law_played : K.lookup f__law_played = some ⟨oc__law_played, od__law_played, .func (PySem.W.fnOf "_law_played" "_law_played" (defArgs s__law_played) (defBody s__law_played) (defScope s__law_played) .none kV__law_played dc__law_played pm__law_played an__law_played cd__law_played ct__law_played), sl__law_played⟩)
    (c__law_played : PySem.W.codeIn K cd__law_played "_law_played" = true)
    (k__law_played : PySem.W.keepIn K (.ref f__law_played) = true)
    (a_law : PySem.W.nsIn K mainGlobals "law" = some (some (.ref f_law)))
    (l_law : K.lookup f_law = some ⟨oc_law, od_law, .func (PySem.W.fnOf "law" "law" (defArgs s_law) (defBody s_law) (defScope s_law) .none kV_law dc_law pm_law an_law cd_law ct_law), sl_law⟩)
    (c_law : PySem.W.codeIn K cd_law "law" = true)
    (k_law : PySem.W.keepIn K (.ref f_law) = true) :
    ∃ fd : FuncData, (∀ (s : Shared) (v : Value), BindsTo s fd ⟨[v], []⟩ [("script", v)]) ∧ ∀ base : Heap, K.In base → base.Ns mainGlobals mg → FnOk l.prog w K mg base (CXE l.prog w) 7 fa fd ["script"] (spLaw K) := by
  have e := hfa.symm.trans (PySem.W.mg_of X G a_law)
  cases e
  have F_View___init__ := fun_mk (st := s_View___init__) l_View___init__ c_View___init__ k_View___init__
  have b_View___init__ := F_View___init__.binds (ps := ["self", "rows"]) fun _ _ _ _ _ _ us hl => match us, hl with | [_, _], _ => rfl
  have F_Game___init__ := fun_mk (st := s_Game___init__) l_Game___init__ c_Game___init__ k_Game___init__
  have b_Game___init__ := F_Game___init__.binds (ps := ["self", "height", "width", "stones"]) fun _ _ _ _ _ _ us hl => match us, hl with | [_, _, _, _], _ => rfl
  have F_Game_uncover := fun_mk (st := s_Game_uncover) l_Game_uncover c_Game_uncover k_Game_uncover
  have b_Game_uncover := F_Game_uncover.binds (ps := ["self", "cell"]) fun _ _ _ _ _ _ us hl => match us, hl with | [_, _], _ => rfl
  have F_Game_view := fun_mk (st := s_Game_view) l_Game_view c_Game_view k_Game_view
  have b_Game_view := F_Game_view.binds (ps := ["self"]) fun _ _ _ _ _ _ us hl => match us, hl with | [_], _ => rfl
  have F_Game_state := fun_mk (st := s_Game_state) l_Game_state c_Game_state k_Game_state
  have b_Game_state := F_Game_state.binds (ps := ["self"]) fun _ _ _ _ _ _ us hl => match us, hl with | [_], _ => rfl
  have F__law_cell_at := fun_mk (st := s__law_cell_at) l__law_cell_at c__law_cell_at k__law_cell_at
  have b__law_cell_at := F__law_cell_at.binds (ps := ["script", "k"]) fun _ _ _ _ _ _ us hl => match us, hl with | [_, _], _ => rfl
  have F__law_mix := fun_mk (st := s__law_mix) l__law_mix c__law_mix k__law_mix
  have b__law_mix := F__law_mix.binds (ps := ["cell", "k", "many"]) fun _ _ _ _ _ _ us hl => match us, hl with | [_, _, _], _ => rfl
  have F__law_field_by := fun_mk (st := s__law_field_by) l__law_field_by c__law_field_by k__law_field_by
  have b__law_field_by := F__law_field_by.binds (ps := ["script", "most"]) fun _ _ _ _ _ _ us hl => match us, hl with | [_, _], _ => rfl
  have F_is_row := fun_mk (st := s_is_row) l_is_row c_is_row k_is_row
  have b_is_row := F_is_row.binds (ps := ["row", "width"]) fun _ _ _ _ _ _ us hl => match us, hl with | [_, _], _ => rfl
  have F_is_size := fun_mk (st := s_is_size) l_is_size c_is_size k_is_size
  have b_is_size := F_is_size.binds (ps := ["height", "width"]) fun _ _ _ _ _ _ us hl => match us, hl with | [_, _], _ => rfl
  have F_is_view := fun_mk (st := s_is_view) l_is_view c_is_view k_is_view
  have b_is_view := F_is_view.binds (ps := ["rows"]) fun _ _ _ _ _ _ us hl => match us, hl with | [_], _ => rfl
  have F_has_cell := fun_mk (st := s_has_cell) l_has_cell c_has_cell k_has_cell
  have b_has_cell := F_has_cell.binds (ps := ["view", "cell"]) fun _ _ _ _ _ _ us hl => match us, hl with | [_, _], _ => rfl
  have F_is_closed := fun_mk (st := s_is_closed) l_is_closed c_is_closed k_is_closed
  have b_is_closed := F_is_closed.binds (ps := ["view", "cell"]) fun _ _ _ _ _ _ us hl => match us, hl with | [_, _], _ => rfl
  have F_near := fun_mk (st := s_near) l_near c_near k_near
  have b_near := F_near.binds (ps := ["view", "cell"]) fun _ _ _ _ _ _ us hl => match us, hl with | [_, _], _ => rfl
  have F_is_laying := fun_mk (st := s_is_laying) l_is_laying c_is_laying k_is_laying
  have b_is_laying := F_is_laying.binds (ps := ["view", "laying"]) fun _ _ _ _ _ _ us hl => match us, hl with | [_, _], _ => rfl
  have F_stones_near := fun_mk (st := s_stones_near) l_stones_near c_stones_near k_stones_near
  have b_stones_near := F_stones_near.binds (ps := ["view", "cell", "laying"]) fun _ _ _ _ _ _ us hl => match us, hl with | [_, _, _], _ => rfl
  have F__law_played := fun_mk (st := s__law_played) l__law_played c__law_played k__law_played
  have b__law_played := F__law_played.binds (ps := ["game", "cells"]) fun _ _ _ _ _ _ us hl => match us, hl with | [_, _], _ => rfl
  have F_law := fun_mk (st := s_law) l_law c_law k_law
  have b_law := F_law.binds (ps := ["script"]) fun _ _ _ _ _ _ us hl => match us, hl with | [_], _ => rfl
  have T : Txt K mg ⟨Z_FieldError, Z_BadView, Z_BadLaying, Z_NoCell, Z_Over, Z_View, Z_Game⟩ := { b_all := PySem.W.mg_none_of X G z_all, b_int := PySem.W.mg_none_of X G z_int, b_len := PySem.W.mg_none_of X G z_len, b_list := PySem.W.mg_none_of X G z_list, b_max := PySem.W.mg_none_of X G z_max, b_min := PySem.W.mg_none_of X G z_min, b_range := PySem.W.mg_none_of X G z_range, b_set := PySem.W.mg_none_of X G z_set, b_sorted := PySem.W.mg_none_of X G z_sorted, b_str := PySem.W.mg_none_of X G z_str, g_MOST_ROWS := ⟨_, PySem.W.mg_of X G g_MOST_ROWS⟩, g_MOST_COLUMNS := ⟨_, PySem.W.mg_of X G g_MOST_COLUMNS⟩, g_CLOSED_SIGN := ⟨_, PySem.W.mg_of X G g_CLOSED_SIGN⟩, g_SIGNS := ⟨_, PySem.W.mg_of X G g_SIGNS⟩, c_FieldError := PySem.W.mg_of X G a_FieldError, x_FieldError := ⟨x_FieldError⟩, c_BadView := PySem.W.mg_of X G a_BadView, x_BadView := ⟨x_BadView⟩, c_BadLaying := PySem.W.mg_of X G a_BadLaying, x_BadLaying := ⟨x_BadLaying⟩, c_NoCell := PySem.W.mg_of X G a_NoCell, x_NoCell := ⟨x_NoCell⟩, c_Over := PySem.W.mg_of X G a_Over, x_Over := ⟨x_Over⟩, c_View := PySem.W.mg_of X G a_View, cl_View := ⟨pg_View, hd_View, po_View, sa_View⟩, n_View_rows := n_View_rows, n_View_height := n_View_height, n_View_width := n_View_width, c_Game := PySem.W.mg_of X G a_Game, cl_Game := ⟨pg_Game, hd_Game, po_Game, sa_Game⟩, n_Game_field := n_Game_field, n_Game_hidden := n_Game_hidden, n_Game_figures := n_Game_figures, n_Game_lost := n_Game_lost }
  refine ⟨PySem.W.fnOf "law" "law" (defArgs s_law) (defBody s_law) (defScope s_law) .none kV_law dc_law pm_law an_law cd_law ct_law, fun s v => .of_eq rfl, fun base _ _ => ?_⟩
  have D__law_cell_at : Df l.prog w K mg base 1 "_law_cell_at" ["script", "k"] (spCell K) := ⟨⟨f__law_cell_at, _, ok_cell F__law_cell_at T, PySem.W.mg_of X G a__law_cell_at, k__law_cell_at, b__law_cell_at⟩⟩
  have D__law_mix : Df l.prog w K mg base 1 "_law_mix" ["cell", "k", "many"] (spMix) := ⟨⟨f__law_mix, _, ok_mix F__law_mix T, PySem.W.mg_of X G a__law_mix, k__law_mix, b__law_mix⟩⟩
  have D__law_field_by : Df l.prog w K mg base 2 "_law_field_by" ["script", "most"] (spField K) := ⟨⟨f__law_field_by, _, ok_field F__law_field_by T D__law_cell_at D__law_mix, PySem.W.mg_of X G a__law_field_by, k__law_field_by, b__law_field_by⟩⟩
  have D_is_row : Df l.prog w K mg base 1 "is_row" ["row", "width"] (spRow) := ⟨⟨f_is_row, _, ok_row F_is_row T, PySem.W.mg_of X G a_is_row, k_is_row, b_is_row⟩⟩
  have D_is_size : Df l.prog w K mg base 1 "is_size" ["height", "width"] (spSize) := ⟨⟨f_is_size, _, ok_size F_is_size T, PySem.W.mg_of X G a_is_size, k_is_size, b_is_size⟩⟩
  have D_is_view : Df l.prog w K mg base 2 "is_view" ["rows"] (spView K) := ⟨⟨f_is_view, _, ok_view F_is_view T D_is_row D_is_size, PySem.W.mg_of X G a_is_view, k_is_view, b_is_view⟩⟩
  have M_View : Md l.prog w K mg base 3 "View" ["self", "rows"] Z_View (spInit K Z_View Z_BadView) := ⟨⟨f_View___init__, _, ⟨mk_View, a_View___init__, i_View___init__, kc_View⟩, ok_init F_View___init__ T D_is_view, PySem.W.mg_of X G a_View, b_View___init__⟩⟩
  have D_has_cell : Df l.prog w K mg base 1 "has_cell" ["view", "cell"] (spHas K Z_View) := ⟨⟨f_has_cell, _, ok_has F_has_cell T, PySem.W.mg_of X G a_has_cell, k_has_cell, b_has_cell⟩⟩
  have D_is_closed : Df l.prog w K mg base 2 "is_closed" ["view", "cell"] (spIsClosed K Z_View) := ⟨⟨f_is_closed, _, ok_isclosed F_is_closed T D_has_cell, PySem.W.mg_of X G a_is_closed, k_is_closed, b_is_closed⟩⟩
  have D_near : Df l.prog w K mg base 2 "near" ["view", "cell"] (spPNear K Z_View Z_NoCell) := ⟨⟨f_near, _, ok_pnear F_near T D_has_cell, PySem.W.mg_of X G a_near, k_near, b_near⟩⟩
  have D_is_laying : Df l.prog w K mg base 3 "is_laying" ["view", "laying"] (spLaying K Z_View) := ⟨⟨f_is_laying, _, ok_islaying F_is_laying T D_is_closed, PySem.W.mg_of X G a_is_laying, k_is_laying, b_is_laying⟩⟩
  have D_stones_near : Df l.prog w K mg base 3 "stones_near" ["view", "cell", "laying"] (spStones K Z_View) := ⟨⟨f_stones_near, _, ok_stones F_stones_near T D_near, PySem.W.mg_of X G a_stones_near, k_stones_near, b_stones_near⟩⟩
  have M_Game : Md l.prog w K mg base 5 "Game" ["self", "height", "width", "stones"] Z_Game (spGInit K Z_Game Z_View Z_BadView Z_BadLaying) := ⟨⟨f_Game___init__, _, ⟨mk_Game, a_Game___init__, i_Game___init__, kc_Game⟩, ok_ginit F_Game___init__ T D_is_size M_View D_is_laying, PySem.W.mg_of X G a_Game, b_Game___init__⟩⟩
  have N_Game_state : Mth l.prog w K mg base 1 Z_Game "state" ["self"] (spGState K Z_Game Z_View) := ⟨⟨f_Game_state, _, ⟨a_Game_state, i_Game_state, k_Game_state⟩, ok_gstate F_Game_state T, b_Game_state⟩, ⟨pg_Game, hd_Game, po_Game, sa_Game⟩⟩
  have N_Game_view : Mth l.prog w K mg base 5 Z_Game "view" ["self"] (spGView K Z_Game Z_View) := ⟨⟨f_Game_view, _, ⟨a_Game_view, i_Game_view, k_Game_view⟩, ok_gview F_Game_view T M_View, b_Game_view⟩, ⟨pg_Game, hd_Game, po_Game, sa_Game⟩⟩
  have N_Game_uncover : Mth l.prog w K mg base 4 Z_Game "uncover" ["self", "cell"] (spUncover K Z_Game Z_View Z_Over Z_NoCell) := ⟨⟨f_Game_uncover, _, ⟨a_Game_uncover, i_Game_uncover, k_Game_uncover⟩, ok_uncover F_Game_uncover T N_Game_state D_has_cell D_stones_near D_near, b_Game_uncover⟩, ⟨pg_Game, hd_Game, po_Game, sa_Game⟩⟩
  have D__law_played : Df l.prog w K mg base 5 "_law_played" ["game", "cells"] (spPlayed K Z_Game Z_View) := ⟨⟨f__law_played, _, ok_played F__law_played T N_Game_state N_Game_uncover, PySem.W.mg_of X G a__law_played, k__law_played, b__law_played⟩⟩
  exact ok_law F_law T D__law_cell_at D__law_mix D__law_field_by D__law_played M_Game N_Game_view N_Game_state
theorem walk {l : PySem.W.OpenLaw} {q : Program} {loose : List Str} {XP : (Str → Option Value) → Heap → Prop} {YP : World → Heap → Prop} {d : DefRec} {K : Params → PySem.W.Frag} (hn : l.most = some 63) (hdf : d.params.defaults = [])
    (hY : ∀ (w : World) (h : Heap), YP w h → (K w.params).In h)
    (F : ∀ (w : World) (mg : Str → Option Value) (fa : Addr) (h : Heap), (K w.params).In h → h.Ns mainGlobals mg → mg d.name = some (.ref fa) →
      ∃ fd : FuncData, (∀ (s : Shared) (u : Value), BindsTo s fd ⟨[u], []⟩ [("script", u)]) ∧ ∀ base : Heap, (K w.params).In base → base.Ns mainGlobals mg → FnOk l.prog w (K w.params) mg base (CXE l.prog w) 7 fa fd ["script"] (spLaw (K w.params))) :
    PySem.W.WalkO q loose XP YP l.row.toRowW d [] (fun f vs => PySem.call f vs) :=
  L2.walk_of (n := 63) (k := 7) (x := "script") (CX := fun w => CXE l.prog w) (sp := fun w => spLaw (K w.params)) hn (by decide) hdf ⟨rfl, by decide, by decide⟩ hY F (fun _ _ a ns hl _ hS => ⟨a, ns, rfl, hS, fun _ => rfl⟩) fun _ _ _ _ _ z => by
    obtain ⟨_, _, _, _, _, _, _, _, _, z⟩ := z
    exact z
end My
open PySem PySem.W PyProof.Rows
set_option maxRecDepth 100000 in
set_option maxHeartbeats 0 in
theorem PySem.Challenge.cw_dampfield_k11_whole_any_order_holds : PySem.Challenge.rw_dampfield_k11_whole_any_order.Holds := by
  w_on; o_law; k_head; (case hw => w_witness2)
  k_fill
  refine My.walk (l := PySem.Challenge.rw_dampfield_k11_whole_any_order) rfl rfl (fun w h Y => PySem.W.kIn_of Y) ?F
  case F =>
    intro w mg fa h KX G hmg
    refine' My.all_mk KX G hmg ?a_FieldError ?x_FieldError ?a_BadView ?x_BadView ?a_BadLaying ?x_BadLaying ?a_NoCell ?x_NoCell ?a_Over ?x_Over ?a_View ?a_View___init__ ?l_View___init__ ?c_View___init__ ?k_View___init__ ?i_View___init__ ?pg_View ?hd_View ?po_View ?sa_View ?mk_View ?kc_View ?n_View_rows ?n_View_height ?n_View_width ?a_Game ?a_Game___init__ ?l_Game___init__ ?c_Game___init__ ?k_Game___init__ ?i_Game___init__ ?a_Game_uncover ?l_Game_uncover ?c_Game_uncover ?k_Game_uncover ?i_Game_uncover ?a_Game_view ?l_Game_view ?c_Game_view ?k_Game_view ?i_Game_view ?a_Game_state ?l_Game_state ?c_Game_state ?k_Game_state ?i_Game_state ?pg_Game ?hd_Game ?po_Game ?sa_Game ?mk_Game ?kc_Game ?n_Game_field ?n_Game_hidden ?n_Game_figures ?n_Game_lost ?g_MOST_ROWS ?g_MOST_COLUMNS ?g_CLOSED_SIGN ?g_SIGNS ?z_all ?z_int ?z_len ?z_list ?z_max ?z_min ?z_range ?z_set ?z_sorted ?z_str ?a__law_cell_at ?l__law_cell_at ?c__law_cell_at ?k__law_cell_at ?a__law_mix ?l__law_mix ?c__law_mix ?k__law_mix ?a__law_field_by ?l__law_field_by ?c__law_field_by ?k__law_field_by ?a_is_row ?l_is_row ?c_is_row ?k_is_row ?a_is_size ?l_is_size ?c_is_size ?k_is_size ?a_is_view ?l_is_view ?c_is_view ?k_is_view ?a_has_cell ?l_has_cell ?c_has_cell ?k_has_cell ?a_is_closed ?l_is_closed ?c_is_closed ?k_is_closed ?a_near ?l_near ?c_near ?k_near ?a_is_laying ?l_is_laying ?c_is_laying ?k_is_laying ?a_stones_near ?l_stones_near ?c_stones_near ?k_stones_near ?a__law_played ?l__law_played ?c__law_played ?k__law_played ?a_law ?l_law ?c_law ?k_law
    (case a_FieldError => k_is)
    (case x_FieldError => k_exc)
    (case a_BadView => k_is)
    (case x_BadView => k_exc)
    (case a_BadLaying => k_is)
    (case x_BadLaying => k_exc)
    (case a_NoCell => k_is)
    (case x_NoCell => k_exc)
    (case a_Over => k_is)
    (case x_Over => k_exc)
    (case a_View => k_is)
    (case a_View___init__ => k_is)
    (case l_View___init__ => k_is)
    (case c_View___init__ => k_is)
    (case k_View___init__ => k_is)
    (case i_View___init__ => k_is)
    (case pg_View => k_is)
    (case hd_View => k_is)
    (case po_View => k_is)
    (case sa_View => k_is)
    (case mk_View => k_is)
    (case kc_View => k_is)
    (case n_View_rows => k_is)
    (case n_View_height => k_is)
    (case n_View_width => k_is)
    (case a_Game => k_is)
    (case a_Game___init__ => k_is)
    (case l_Game___init__ => k_is)
    (case c_Game___init__ => k_is)
    (case k_Game___init__ => k_is)
    (case i_Game___init__ => k_is)
    (case a_Game_uncover => k_is)
    (case l_Game_uncover => k_is)
    (case c_Game_uncover => k_is)
    (case k_Game_uncover => k_is)
    (case i_Game_uncover => k_is)
    (case a_Game_view => k_is)
    (case l_Game_view => k_is)
    (case c_Game_view => k_is)
    (case k_Game_view => k_is)
    (case i_Game_view => k_is)
    (case a_Game_state => k_is)
    (case l_Game_state => k_is)
    (case c_Game_state => k_is)
    (case k_Game_state => k_is)
    (case i_Game_state => k_is)
    (case pg_Game => k_is)
    (case hd_Game => k_is)
    (case po_Game => k_is)
    (case sa_Game => k_is)
    (case mk_Game => k_is)
    (case kc_Game => k_is)
    (case n_Game_field => k_is)
    (case n_Game_hidden => k_is)
    (case n_Game_figures => k_is)
    (case n_Game_lost => k_is)
    (case g_MOST_ROWS => k_is)
    (case g_MOST_COLUMNS => k_is)
    (case g_CLOSED_SIGN => k_is)
    (case g_SIGNS => k_is)
    (case z_all => k_is)
    (case z_int => k_is)
    (case z_len => k_is)
    (case z_list => k_is)
    (case z_max => k_is)
    (case z_min => k_is)
    (case z_range => k_is)
    (case z_set => k_is)
    (case z_sorted => k_is)
    (case z_str => k_is)
    (case a__law_cell_at => k_is)
    (case l__law_cell_at => k_is)
    (case c__law_cell_at => k_is)
    (case k__law_cell_at => k_is)
    (case a__law_mix => k_is)
    (case l__law_mix => k_is)
    (case c__law_mix => k_is)
    (case k__law_mix => k_is)
    (case a__law_field_by => k_is)
    (case l__law_field_by => k_is)
    (case c__law_field_by => k_is)
    (case k__law_field_by => k_is)
    (case a_is_row => k_is)
    (case l_is_row => k_is)
    (case c_is_row => k_is)
    (case k_is_row => k_is)
    (case a_is_size => k_is)
    (case l_is_size => k_is)
    (case c_is_size => k_is)
    (case k_is_size => k_is)
    (case a_is_view => k_is)
    (case l_is_view => k_is)
    (case c_is_view => k_is)
    (case k_is_view => k_is)
    (case a_has_cell => k_is)
    (case l_has_cell => k_is)
    (case c_has_cell => k_is)
    (case k_has_cell => k_is)
    (case a_is_closed => k_is)
    (case l_is_closed => k_is)
    (case c_is_closed => k_is)
    (case k_is_closed => k_is)
    (case a_near => k_is)
    (case l_near => k_is)
    (case c_near => k_is)
    (case k_near => k_is)
    (case a_is_laying => k_is)
    (case l_is_laying => k_is)
    (case c_is_laying => k_is)
    (case k_is_laying => k_is)
    (case a_stones_near => k_is)
    (case l_stones_near => k_is)
    (case c_stones_near => k_is)
    (case k_stones_near => k_is)
    (case a__law_played => k_is)
    (case l__law_played => k_is)
    (case c__law_played => k_is)
    (case k__law_played => k_is)
    (case a_law => k_is)
    (case l_law => k_is)
    (case c_law => k_is)
    (case k_law => k_is)
