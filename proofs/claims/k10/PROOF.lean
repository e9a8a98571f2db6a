import PyProof.Rows.All
import Wide.All
import OpenK.AllK
import Wide.FinOn
import Lean
import PyProof.EqAt
import PyProof.EqKinds
import PyProof.TupleCall
import PySem.Challenge.RW_dampfield_k10_games
set_option Elab.async false
set_option linter.all false
set_option maxRecDepth 100000
namespace L2
open PySem PySem.Spec PyProof.Rows
abbrev Key := Sum Int Str
def keyIs : Key → Value → Bool
  | .inl k, v => Value.isInt k v
  | .inr x, v => Value.isStrOf x v
def keyH (w : World) : Key → Int
  | .inl k => hashInt k
  | .inr x => hashStr w x
theorem keyIs_shape : ∀ {k : Key} {v : Value}, keyIs k v = true → (∃ i t, k = Sum.inl i ∧ v = Value.int i t) ∨ (∃ x t, k = Sum.inr x ∧ v = Value.str x t)
  | .inl i, v, h => by
    obtain ⟨t, e⟩ := Value.isInt_shape (k := i) (v := v) h
    exact .inl ⟨i, t, rfl, e⟩
  | .inr x, v, h => by
    obtain ⟨t, e⟩ := Value.isStrOf_shape (x := x) (v := v) h
    exact .inr ⟨x, t, rfl, e⟩
theorem keyIs_int (i : Int) (t : Tok) : keyIs (.inl i) (.int i t) = true := by simp [keyIs, Value.isInt]
theorem keyIs_str (x : Str) (t : Tok) : keyIs (.inr x) (.str x t) = true := by simp [keyIs, Value.isStrOf]
theorem key_ll (a b : Int) : decide ((Sum.inl a : Key) = Sum.inl b) = (a == b) := by
  by_cases e : a = b
  · subst e; simp
  · have h : ¬ (Sum.inl a : Key) = Sum.inl b := fun q => e (Sum.inl.inj q)
    rw [decide_eq_false h]
    exact (beq_eq_false_iff_ne.mpr e).symm
theorem key_rr (a b : Str) : decide ((Sum.inr a : Key) = Sum.inr b) = decide (a = b) := by
  by_cases e : a = b
  · subst e; simp
  · have h : ¬ (Sum.inr a : Key) = Sum.inr b := fun q => e (Sum.inr.inj q)
    rw [decide_eq_false h, decide_eq_false e]
theorem key_lr (a : Int) (b : Str) : decide ((Sum.inl a : Key) = Sum.inr b) = false := decide_eq_false (fun q => nomatch q)
theorem key_rl (a : Str) (b : Int) : decide ((Sum.inr a : Key) = Sum.inl b) = false := decide_eq_false (fun q => nomatch q)
def mixKind (prog : Program) (w : World) : PySem.KeyKind prog w Key where
  is := keyIs
  hash := keyH w
  inj := fun v a b ha hb => by
    rcases keyIs_shape ha with ⟨i, t, rfl, rfl⟩ | ⟨x, t, rfl, rfl⟩
    · rcases keyIs_shape hb with ⟨j, u, rfl, e⟩ | ⟨y, u, rfl, e⟩
      · injection e with e1 _; rw [e1]
      · exact nomatch e
    · rcases keyIs_shape hb with ⟨j, u, rfl, e⟩ | ⟨y, u, rfl, e⟩
      · exact nomatch e
      · injection e with e1 _; rw [e1]
  byValue := fun k v h => by
    rcases keyIs_shape h with ⟨i, t, rfl, rfl⟩ | ⟨x, t, rfl, rfl⟩ <;> rfl
  pyHash := fun hv h => by
    rcases keyIs_shape hv with ⟨i, t, rfl, rfl⟩ | ⟨x, t, rfl, rfl⟩
    · exact wpAny_pyHash_int h
    · exact wpAny_pyHash_str h
  eqBool := fun hu hv h => by
    rcases keyIs_shape hu with ⟨i, t, rfl, rfl⟩ | ⟨x, t, rfl, rfl⟩
    · rcases keyIs_shape hv with ⟨j, u, rfl, rfl⟩ | ⟨y, u, rfl, rfl⟩
      · rw [key_ll] at h; exact wpAny_eqBool_int h
      · rw [key_lr] at h; exact SeqAt.EqAt.int_str i t y u _ _ _ _ h
    · rcases keyIs_shape hv with ⟨j, u, rfl, rfl⟩ | ⟨y, u, rfl, rfl⟩
      · rw [key_rl] at h; exact SeqAt.EqAt.str_int x t j u _ _ _ _ h
      · rw [key_rr] at h; exact wpAny_eqBool_str h
  «strs» := fun k x t v h => by
    rcases keyIs_shape h with ⟨i, u, rfl, e⟩ | ⟨y, u, rfl, e⟩
    · exact nomatch e
    · injection e with e1 _
      subst e1
      cases v <;> rfl
theorem mixKind_int (prog : Program) (w : World) (i : Int) (t : Tok) : (mixKind prog w).is (.inl i) (.int i t) = true := keyIs_int i t
theorem mixKind_str (prog : Program) (w : World) (x : Str) (t : Tok) : (mixKind prog w).is (.inr x) (.str x t) = true := keyIs_str x t
end L2
namespace L2
open PySem PySem.Spec PyProof.Rows
inductive V where
  | non | bl (b : Bool) | int (i : Int) | str (x : Str) | byt (b : Array UInt8) | flt (b : UInt64) | ref (a : Addr) | ty (n : String)
  deriving DecidableEq
def RelV : V → Value → Prop
  | .non, u => u = Value.none
  | .bl b, u => u = Value.bool b
  | .int i, u => ∃ t, u = Value.int i t
  | .str x, u => ∃ t, u = Value.str x t
  | .byt b, u => ∃ t, u = Value.bytes b t
  | .flt b, u => ∃ t, u = Value.float b t
  | .ref a, u => u = Value.ref a
  | .ty n, u => u = Value.type n
abbrev Vals : List V → List Value → Prop := Paired RelV
theorem Vals.length {xs : List V} {us : List Value} (r : Vals xs us) : xs.length = us.length := Paired.length r
theorem Vals.get : ∀ {xs : List V} {us : List Value} {i : Nat} {x : V}, Vals xs us → xs[i]? = some x → ∃ u, us[i]? = some u ∧ RelV x u
  | _, _, _, _, .nil, e => by simp at e
  | _, _, 0, _, .cons r _, e => by simp at e; subst e; exact ⟨_, rfl, r⟩
  | _, _, i + 1, x, .cons _ t, e => by
    obtain ⟨u, h1, h2⟩ := Vals.get (i := i) (x := x) t (by simpa using e)
    exact ⟨u, by simpa using h1, h2⟩
theorem Vals.append : ∀ {xs ys : List V} {us ws : List Value}, Vals xs us → Vals ys ws → Vals (xs ++ ys) (us ++ ws)
  | _, _, _, _, .nil, s => s
  | _, _, _, _, .cons r t, s => .cons r (Vals.append t s)
def RelO : Option V → Option Value → Prop
  | some v, some u => RelV v u
  | none, none => True
  | _, _ => False
def KV {κ : Type} : List (κ × V) → List (κ × Value) → Prop := Paired fun (p : κ × V) (q : κ × Value) => p.1 = q.1 ∧ RelV p.2 q.2
def kV : Key → V
  | .inl i => .int i
  | .inr x => .str x
inductive HO where
  | lst (xs : List V)
  | tup (xs : List V)
  | dK (kvs : List (Key × V)) | dT (kvs : List (List Key × V))
  | set (S : Int → Bool) (n : Nat)
  | ins (C dx : Addr) (fs : List (Str × V))
  | own (x : Addr)
  | xd (fs : List (Str × V))
  | met (f x : Addr)
  | rng (lo hi : Int)
  | frz (o : Obj) (u : HO)
  | tbl (ps : Array Value)
  | ext (φ : Heap → Prop)
abbrev Hp := Addr → Option HO
def upd (H : Hp) (a : Addr) (o : HO) : Hp := fun b => if b = a then some o else H b
theorem upd_same {H : Hp} {a : Addr} {o : HO} : upd H a o a = some o := by unfold upd; rw [if_pos rfl]
theorem upd_ne {H : Hp} {a b : Addr} {o : HO} (h : b ≠ a) : upd H a o b = H b := by unfold upd; rw [if_neg h]
theorem ne_of {H : Hp} {a b : Addr} {o u : HO} (h : H a = some o) (h' : H b = some u) (d : o ≠ u) : a ≠ b := by
  intro e; subst e; rw [h] at h'; exact d (Option.some.inj h')
theorem ne_of_none {H : Hp} {a b : Addr} {o : HO} (h : H a = some o) (h' : H b = none) : a ≠ b := by
  intro e; subst e; rw [h] at h'; cases h'
section
variable (P : Program) (w : World)
def ObjOk (H : Hp) (h : Heap) (a : Addr) : HO → Prop
  | .lst xs => xs.length ≤ sizeLine ∧ ∃ (its : List Value) (n : Nat), Vals xs its ∧ h.get? a = some { cls := .type "list", data := .seq its.toArray n }
  | .tup xs => xs.length ≤ sizeLine ∧ ∃ its : List Value, Vals xs its ∧ IsTup h a its.toArray
  | .dK kvs => kvs.length ≤ sizeLine ∧ (a == sysModules) = false ∧ ∃ vs, KV kvs vs ∧ h.DictOf (mixKind P w) a vs
  | .dT kvs => kvs.length ≤ sizeLine ∧ (a == sysModules) = false ∧ ∃ xs : List (List Key × Addr × Value),
      Paired (fun (p : List Key × V) (q : List Key × Addr × Value) => p.1 = q.1 ∧ H q.2.1 = some (.tup (p.1.map kV)) ∧ RelV p.2 q.2.2) kvs xs ∧
      ∃ o es ep, h.get? a = some o ∧ o.ExactDict ∧ o.data = .dict es ep ∧ es.toList = xs.map (entryOfKey (tupleKind (mixKind P w))) ∧ (xs.map (·.1)).Nodup
  | .set S n => h.SetOf (intKind P w) a S n
  | .ins C dx fs => H dx = some (.own a) ∧ fs.length ≤ 1000 ∧ dx ≠ a ∧ h.get? a = some (PySem.W.instObj C dx) ∧
      ∃ mA, h.Ns1 dx mA ∧ (∀ f, RelO (fs.lookup f) (mA f)) ∧ PySem.Within mA (fs.map (·.1))
  | .own _ => ∃ o, h.get? a = some o
  | .xd fs => ∃ mA, h.Ns1 a mA ∧ ∀ f, RelO (fs.lookup f) (mA f)
  | .rng lo hi => ∃ t u v, h.get? a = some { cls := .type "range", data := .fields #[.int lo t, .int hi u, .int 1 v] }
  | .frz o u => h.get? a = some o ∧ ObjOk H h a u
  | .tbl ps => h.get? a = some { cls := .none, data := .fields ps }
  | .met f x => h.get? a = some (PySem.W.methodObj (.ref f) (.ref x))
  | .ext φ => φ h ∧ (∃ o, h.get? a = some o) ∧ ∀ h1 h2 : Heap, φ h1 → (∀ o, h1.get? a = some o → h2.get? a = some o) → φ h2
def HOk (H : Hp) (h : Heap) : Prop := ∀ a o, H a = some o → ObjOk P w H h a o
end
section
variable {P : Program} {w : World} {H H' : Hp} {h h' : Heap} {a : Addr} {o : HO}
theorem ObjOk.lt (x : ObjOk P w H h a o) : a < h.objs.size := by
  cases o with
  | lst xs => obtain ⟨_, _, _, _, e⟩ := x; exact Heap.lt_size e
  | tup xs => obtain ⟨_, _, _, p⟩ := x; exact p.lt
  | dK kvs => obtain ⟨_, _, _, _, o, _, _, e, _⟩ := x; exact Heap.lt_size e
  | dT kvs => obtain ⟨_, _, _, _, o, _, _, e, _⟩ := x; exact Heap.lt_size e
  | set S n => obtain ⟨o, _, _, _, e, _⟩ := x; exact Heap.lt_size e
  | ins C dx fs => obtain ⟨_, _, _, e, _⟩ := x; exact Heap.lt_size e
  | own y => obtain ⟨_, e⟩ := x; exact Heap.lt_size e
  | xd fs => obtain ⟨_, ⟨_, _, _, e, _⟩, _⟩ := x; exact Heap.lt_size e
  | rng lo hi => obtain ⟨_, _, _, e⟩ := x; exact Heap.lt_size e
  | frz ob u => obtain ⟨e, _⟩ := x; exact Heap.lt_size e
  | tbl ps => exact Heap.lt_size (show h.get? a = some _ from x)
  | met f y => exact Heap.lt_size (show h.get? a = some _ from x)
  | ext φ => obtain ⟨_, ⟨_, e⟩, _⟩ := x; exact Heap.lt_size e
theorem Paired.mapP {α β : Type} {F G : α → β → Prop} : ∀ {l₁ : List α} {l₂ : List β}, Paired F l₁ l₂ → (∀ a b, F a b → G a b) → Paired G l₁ l₂
  | _, _, .nil, _ => .nil
  | _, _, .cons r t, f => .cons (f _ _ r) (Paired.mapP t f)
theorem ObjOk.stay (x : ObjOk P w H h a o) (k : ∀ b u, (b = a ∨ H b = some (.own a)) → h.get? b = some u → h'.get? b = some u)
    (ho : ∀ b, H b = some (.own a) → H' b = some (.own a)) (ht : ∀ b xs, H b = some (.tup xs) → H' b = some (.tup xs)) : ObjOk P w H' h' a o := by
  induction o with
  | lst xs => obtain ⟨z, its, n, r, e⟩ := x; exact ⟨z, its, n, r, k _ _ (.inl rfl) e⟩
  | tup xs => obtain ⟨z, its, r, ob, e, c⟩ := x; exact ⟨z, its, r, ob, k _ _ (.inl rfl) e, c⟩
  | dK kvs => obtain ⟨z, y, vs, r, ob, es, ep, e, c⟩ := x; exact ⟨z, y, vs, r, ob, es, ep, k _ _ (.inl rfl) e, c⟩
  | dT kvs =>
    obtain ⟨z, y, xs, r, ob, es, ep, e, c⟩ := x
    exact ⟨z, y, xs, Paired.mapP r fun p q z => ⟨z.1, ht _ _ z.2.1, z.2.2⟩, ob, es, ep, k _ _ (.inl rfl) e, c⟩
  | set S n => obtain ⟨ob, es, ep, t, e, c⟩ := x; exact ⟨ob, es, ep, t, k _ _ (.inl rfl) e, c⟩
  | ins C dx fs =>
    obtain ⟨d, z, ne, e, mA, ⟨od, es, ep, e2, c⟩, r⟩ := x
    exact ⟨ho _ d, z, ne, k _ _ (.inl rfl) e, mA, ⟨od, es, ep, k _ _ (.inr d) e2, c⟩, r⟩
  | own y => obtain ⟨ob, e⟩ := x; exact ⟨ob, k _ _ (.inl rfl) e⟩
  | xd fs => obtain ⟨mA, ⟨od, es, ep, e, c⟩, r⟩ := x; exact ⟨mA, ⟨od, es, ep, k _ _ (.inl rfl) e, c⟩, r⟩
  | rng lo hi => obtain ⟨t, u, v, e⟩ := x; exact ⟨t, u, v, k _ _ (.inl rfl) e⟩
  | frz ob u ih => obtain ⟨e, q⟩ := x; exact ⟨k _ _ (.inl rfl) e, ih q⟩
  | tbl ps =>
    have e : h.get? a = some { cls := .none, data := .fields ps } := x
    show h'.get? a = some { cls := .none, data := .fields ps }
    exact k a _ (.inl rfl) e
  | met f y =>
    have e : h.get? a = some (PySem.W.methodObj (.ref f) (.ref y)) := x
    show h'.get? a = some (PySem.W.methodObj (.ref f) (.ref y))
    exact k a _ (.inl rfl) e
  | ext φ => obtain ⟨p, ⟨o, e⟩, st⟩ := x; exact ⟨st _ _ p fun o q => k _ _ (.inl rfl) q, ⟨o, k _ _ (.inl rfl) e⟩, st⟩
theorem HOk.lt (x : HOk P w H h) (e : H a = some o) : a < h.objs.size := (x a o e).lt
theorem HOk.fresh (x : HOk P w H h) (e : h.objs.size ≤ a) : H a = none := by
  cases q : H a with
  | none => rfl
  | some u => exact absurd (Nat.lt_of_lt_of_le (x.lt q) e) (Nat.lt_irrefl _)
theorem HOk.kept (x : HOk P w H h) (k : ∀ b u, h.get? b = some u → h'.get? b = some u) : HOk P w H h' := fun a o e =>
  (x a o e).stay (fun b u _ q => k b u q) (fun _ q => q) fun _ _ q => q
theorem HOk.laid (x : HOk P w H h) (k : ∀ b u, h.get? b = some u → h'.get? b = some u) (hp : h.objs.size ≤ a) (new : ObjOk P w (upd H a o) h' a o) : HOk P w (upd H a o) h' := fun b u e => by
  have hn := x.fresh hp
  by_cases hb : b = a
  · subst hb; rw [upd_same] at e; cases e; exact new
  · rw [upd_ne hb] at e
    exact (x b u e).stay (fun c v _ q => k c v q) (fun c q => by rw [upd_ne (ne_of_none q hn)]; exact q) fun c xs q => by rw [upd_ne (ne_of_none q hn)]; exact q
end
def Rd (H : Hp) (a : Addr) (u : HO) : Prop := H a = some u ∨ ∃ o, H a = some (.frz o u)
theorem Rd.ok {P : Program} {w : World} {H : Hp} {h : Heap} {a : Addr} {u : HO} (r : Rd H a u) (x : HOk P w H h) : ObjOk P w H h a u := by
  rcases r with r | ⟨o, r⟩
  · exact x a u r
  · obtain ⟨_, q⟩ := x a _ r
    exact q
def Mut : Option HO → Prop
  | some (.lst _) => True
  | some (.dK _) => True
  | some (.dT _) => True
  | some (.set _ _) => True
  | some (.ins _ _ _) => True
  | some (.ext _) => True
  | _ => False
section
variable {P : Program} {w : World} {H : Hp} {h h' : Heap} {x e : Addr} {o' : HO}
theorem HOk.write (ok : HOk P w H h) (mu : Mut (H x)) (he : e = x ∨ H e = some (.own x)) (k : ∀ b u, b ≠ e → h.get? b = some u → h'.get? b = some u) (heo : ∃ u, h'.get? e = some u)
    (new : ObjOk P w (upd H x o') h' x o') : HOk P w (upd H x o') h' := fun b u q => by
  have nown : ∀ c y, H c = some (.own y) → c ≠ x := fun c y r z => by subst z; rw [r] at mu; exact mu
  have ntup : ∀ c xs, H c = some (.tup xs) → c ≠ x := fun c xs r z => by subst z; rw [r] at mu; exact mu
  by_cases hb : b = x
  · subst hb; rw [upd_same] at q; cases q; exact new
  · rw [upd_ne hb] at q
    by_cases hbe : b = e
    · have q' : H b = some (.own x) := by
        rcases he with z | z
        · exact absurd (hbe.trans z) hb
        · rw [hbe]; exact z
      rw [q] at q'; cases q'
      obtain ⟨v, hv⟩ := heo
      exact ⟨v, by rw [hbe]; exact hv⟩
    · refine (ok b u q).stay (fun c v hc r => k c v ?_ r) (fun c r => by rw [upd_ne (nown c b r)]; exact r) fun c xs r => by rw [upd_ne (ntup c xs r)]; exact r
      rcases hc with rfl | hc
      · exact hbe
      · rintro rfl
        rcases he with z | z
        · exact nown c b hc z
        · rw [hc] at z; cases z; exact hb rfl
end
structure Un (fs ex : List Addr) (H H' : Hp) (h h' : Heap) : Prop where
  keep : ∀ b o, h.get? b = some o → H b = none → b ∉ fs → b ∉ ex → h'.get? b = some o
  slot : ∀ b o, h.get? b = some o → H b = none → b ∈ fs → b ∉ ex → ∃ sl, h'.get? b = some { o with slots := sl }
  free : ∀ b o, h.get? b = some o → H b = none → b ∉ ex → H' b = none
  there : ∀ b o, h.get? b = some o → b ∉ ex → ∃ o', h'.get? b = some o'
  tups : ∀ b xs, H b = some (.tup xs) → H' b = some (.tup xs)
  frzs : ∀ b o u, H b = some (.frz o u) → H' b = some (.frz o u)
  tbls : ∀ b ps, H b = some (.tbl ps) → ∃ more, H' b = some (.tbl (ps ++ more))
section
variable {fs fs' ex ex' : List Addr} {H H1 H2 : Hp} {h h1 h2 h' : Heap} {a x e : Addr} {o : HO}
theorem Un.any (u : Un fs ex H H1 h h1) {b : Addr} {ob : Obj} (q : h.get? b = some ob) (n : H b = none) (hx : b ∉ ex) : ∃ sl, h1.get? b = some { ob with slots := sl } := by
  by_cases hb : b ∈ fs
  · exact u.slot b ob q n hb hx
  · exact ⟨ob.slots, u.keep b ob q n hb hx⟩
theorem Un.kept (k : ∀ b u, h.get? b = some u → h'.get? b = some u) : Un fs ex H H h h' :=
  ⟨fun b ob q _ _ _ => k b ob q, fun b ob q _ _ _ => ⟨ob.slots, k b ob q⟩, fun _ _ _ n _ => n, fun b ob q _ => ⟨ob, k b ob q⟩, fun _ _ q => q, fun _ _ _ q => q, fun _ ps q => ⟨#[], by rw [q]; simp⟩⟩
theorem Un.refl : Un fs ex H H h h := Un.kept fun _ _ q => q
theorem Un.laid (k : ∀ b u, h.get? b = some u → h'.get? b = some u) (hp : h.objs.size ≤ a) (hn : H a = none) : Un fs ex H (upd H a o) h h' where
  keep := fun b u q _ _ _ => k b u q
  slot := fun b u q _ _ _ => ⟨u.slots, k b u q⟩
  free := fun b u q n _ => by rw [upd_ne (Nat.ne_of_lt (Nat.lt_of_lt_of_le (Heap.lt_size q) hp))]; exact n
  there := fun b u q _ => ⟨u, k b u q⟩
  tups := fun b xs q => by rw [upd_ne (ne_of_none q hn)]; exact q
  frzs := fun b u xs q => by rw [upd_ne (ne_of_none q hn)]; exact q
  tbls := fun b ps q => ⟨#[], by rw [upd_ne (ne_of_none q hn), q]; simp⟩
theorem Un.write (mu : Mut (H x)) (he : e = x ∨ H e = some (.own x)) (k : ∀ b u, b ≠ e → h.get? b = some u → h'.get? b = some u) (heo : ∃ u, h'.get? e = some u) : Un fs ex H (upd H x o) h h' := by
  have hx : ∀ b, H b = none → b ≠ x := fun b n z => by subst z; rw [n] at mu; exact mu
  have hb : ∀ b, H b = none → b ≠ e := fun b n z => by
    subst z
    rcases he with r | r
    · exact hx b n r
    · rw [n] at r; cases r
  have hm : ∀ b u, H b = some u → ¬ Mut (some u) → b ≠ x := fun b u q nm z => by subst z; rw [q] at mu; exact nm mu
  refine ⟨fun b u q n _ _ => k b u (hb b n) q, fun b u q n _ _ => ⟨u.slots, k b u (hb b n) q⟩, fun b u q n _ => by rw [upd_ne (hx b n)]; exact n, fun b u q _ => ?_,
    fun b xs q => by rw [upd_ne (hm b _ q fun z => z)]; exact q, fun b u xs q => by rw [upd_ne (hm b _ q fun z => z)]; exact q, fun b ps q => ⟨#[], by rw [upd_ne (hm b _ q fun z => z), q]; simp⟩⟩
  by_cases hbe : b = e
  · subst hbe; exact heo
  · exact ⟨u, k b u hbe q⟩
end
def trk (h : Heap) (H : Hp) : List Addr := (List.range h.objs.size).filter fun a => (H a).isSome
def hidT (h : Heap) (H : Hp) : Heap := PySem.W.hideAll h (trk h H)
theorem hidT_size (h : Heap) (H : Hp) : (hidT h H).objs.size = h.objs.size := PySem.W.hideAll_size _ _
theorem hidT_get {h : Heap} {H : Hp} {b : Addr} {o : Obj} (e : h.get? b = some o) (n : H b = none) : (hidT h H).get? b = some o :=
  PySem.W.hideAll_get _ e fun hm => by
    have q : (H b).isSome = true := (List.mem_filter.mp hm).2
    rw [n] at q; simp at q
theorem of_hidT {h : Heap} {H : Hp} {b : Addr} {o : Obj} (e : (hidT h H).get? b = some o) : h.get? b = some o ∧ H b = none := by
  have e' : h.get? b = some o := PySem.W.of_hideAll (trk h H) e
  refine ⟨e', ?_⟩
  cases q : H b with
  | none => rfl
  | some x =>
    have hm : b ∈ trk h H := List.mem_filter.mpr ⟨List.mem_range.mpr (Heap.lt_size e'), by simp [q]⟩
    have z : (hidT h H).get? b = none := PySem.W.hideAll_none (trk h H) hm
    rw [z] at e; cases e
end L2
namespace L2
open PySem PySem.Spec PyProof.Rows
structure Mod (K : PySem.W.Frag) (mg : Str → Option Value) (base : Heap) : Prop where
  kin : K.In base
  glob : base.Ns mainGlobals mg
  blt : ∃ mb, base.Ns builtinsNs mb ∧ ∀ x : Str, x ≠ "__name__" → mb x = bootBuiltins x
  nolimit : base.NoLimit
structure Cx where
  prog : Program
  w : World
  K : PySem.W.Frag
  mg : Str → Option Value
  base : Heap
  A : Around
  N : List Str
  s₀ : Shared
  H₀ : Hp
  env : Env
  outer : List Env
  stack : List Env
  ex : List Addr
  fn : Str → Bool
  calm : Bool
  pn : List (Addr × Obj)
  xe : Value → Shared → Prop
def frs (l : List Env) : List Addr := l.filterMap (·.frame)
abbrev Cx.fs (X : Cx) : List Addr := frs X.outer
def Vis (sc : Scope) (x : Str) : Prop := sc.names.lookup x = some .local ∨ sc.names.lookup x = some .cell ∨ sc.names.lookup x = some .free
def Loc (sc : Scope) (x : Str) : Prop := sc.names.lookup x = some .local ∨ sc.names.lookup x = some .cell
def Look (env : Env) (h : Heap) (m : Str → Option Value) (x : Str) (u : Value) : Prop :=
  (env.kindOf x = some .local ∧ m x = some u) ∨ ((env.kindOf x = some .cell ∨ env.kindOf x = some .free) ∧ ∃ c, env.cells.lookup x = some c ∧ h.IsCell c (some u))
structure Cx.Ok (X : Cx) : Prop where
  mod : Mod X.K X.mg X.base
  kind : X.env.scope.kind = .function
  glob : X.env.globals = mainGlobals
  blt : X.env.builtins = builtinsNs
  above : X.s₀.heap.objs.size ≤ X.env.locals
  inj : ∀ x y c, X.env.cells.lookup x = some c → X.env.cells.lookup y = some c → x = y
  has : ∀ x, (X.env.kindOf x = some .cell ∨ X.env.kindOf x = some .free) → ∃ c, X.env.cells.lookup x = some c
  cab : ∀ x c, X.fn x = true → X.env.cells.lookup x = some c → X.s₀.heap.objs.size ≤ c
  hd : X.calm = true → X.A.handled = none
  frames : X.A.frames = some X.stack
  stk : X.stack = X.outer ∨ (X.stack = X.env :: X.outer ∧ X.env.frame = some X.env.locals)
  exf : ∀ b ∈ X.ex, b ≠ X.env.locals ∧ ∀ x c, X.env.cells.lookup x = some c → c ≠ b
  bs : ∀ b o, X.base.get? b = some o → X.s₀.heap.get? b = some o ∧ X.H₀ b = none
  bsz : X.base.objs.size ≤ X.s₀.heap.objs.size
  noex : ∀ b o, X.base.get? b = some o → b ∉ X.ex
  exfs : ∀ b ∈ X.ex, b ∉ X.fs
  funs : X.s₀.heap.FunFrames X.base X.outer
  frf : ∀ b ∈ X.fs, X.H₀ b = none
structure Inv (X : Cx) (pins : List (Addr × Obj)) (σ : List (Option V)) (H : Hp) (s : Shared) : Prop where
  ok : X.Ok
  os : s.os = X.s₀.os
  bare : AllBare s.gens
  base : Un X.fs X.ex X.H₀ H X.s₀.heap s.heap
  loc : ∃ m, s.heap.Ns X.env.locals m ∧ ∀ (i : Nat) (x : Str) (v : V), X.N[i]? = some x → σ[i]? = some (some v) → Vis X.env.scope x → ∃ u, RelV v u ∧ Look X.env s.heap m x u
  cell : ∀ x c, X.env.cells.lookup x = some c → ∃ v, s.heap.IsCell c v
  free : H X.env.locals = none
  freeC : ∀ x c, X.env.cells.lookup x = some c → H c = none
  pin : ∀ p ∈ X.pn ++ pins, s.heap.get? p.1 = some p.2 ∧ H p.1 = none ∧ p.1 ≠ X.env.locals ∧ p.1 ∉ X.fs ∧ ∀ v, p.2.data ≠ .cell v
  hok : HOk X.prog X.w H s.heap
  len : σ.length = X.N.length
section
variable {X : Cx} {pins : List (Addr × Obj)} {σ : List (Option V)} {H H' : Hp} {s : Shared} {h' : Heap}
theorem Cx.Ok.nofr (ok : X.Ok) {b : Addr} {o : Obj} (e : X.base.get? b = some o) : b ∉ X.fs := fun hb => by
  have := (ok.funs.mem hb).1
  rw [e] at this; cases this
theorem Inv.bs (I : Inv X pins σ H s) : ∀ b o, X.base.get? b = some o → s.heap.get? b = some o ∧ H b = none := fun b o e =>
  ⟨I.base.keep b o (I.ok.bs b o e).1 (I.ok.bs b o e).2 (I.ok.nofr e) (I.ok.noex b o e), I.base.free b o (I.ok.bs b o e).1 (I.ok.bs b o e).2 (I.ok.noex b o e)⟩
theorem Inv.bk (I : Inv X pins σ H s) : ∀ b o, X.base.get? b = some o → s.heap.get? b = some o := fun b o e => (I.bs b o e).1
theorem Inv.mod (I : Inv X pins σ H s) : Mod X.K X.mg X.base := I.ok.mod
theorem Inv.kIn (I : Inv X pins σ H s) : X.K.In s.heap := I.ok.mod.kin.keeps I.bk
theorem Inv.lt (I : Inv X pins σ H s) : X.env.locals < s.heap.objs.size := let ⟨_, hn, _⟩ := I.loc; hn.lt
theorem Inv.sz (I : Inv X pins σ H s) : X.s₀.heap.objs.size ≤ s.heap.objs.size := Nat.le_trans I.ok.above (Nat.le_of_lt I.lt)
theorem Inv.nofs (I : Inv X pins σ H s) {a : Addr} (h : s.heap.objs.size ≤ a) : a ∉ X.fs := fun hb => by
  obtain ⟨_, o, ho, _⟩ := I.ok.funs.mem hb
  exact absurd (Nat.lt_of_lt_of_le (Heap.lt_size ho) (Nat.le_trans I.sz h)) (Nat.lt_irrefl _)
theorem Inv.cne (I : Inv X pins σ H s) : ∀ x c, X.env.cells.lookup x = some c → c ≠ X.env.locals := fun x c e z => by
  obtain ⟨v, o, ho, hd⟩ := I.cell x c e
  obtain ⟨m, ⟨o', es, ep, ho', hd', _⟩, _⟩ := I.loc
  rw [z, ho'] at ho; cases ho; rw [hd'] at hd; cases hd
theorem Inv.funs (I : Inv X pins σ H s) : s.heap.FunFrames X.base X.outer := by
  have all : ∀ (l : List Env), (∀ b ∈ frs l, b ∈ X.fs) → X.s₀.heap.FunFrames X.base l → s.heap.FunFrames X.base l := by
    intro l
    induction l with
    | nil => intro _ _; trivial
    | cons env r ih =>
      intro hs hl
      obtain ⟨hk, ⟨L, o, hf, hn, ho, hd⟩, hr⟩ := hl
      have hL : L ∈ X.fs := hs L (by unfold frs; rw [List.filterMap_cons, hf]; exact List.mem_cons_self)
      obtain ⟨sl, e⟩ := I.base.slot L o ho (I.ok.frf L hL) hL fun z => I.ok.exfs L z hL
      exact ⟨hk, ⟨L, _, hf, hn, e, hd⟩, ih (fun b hb => hs b (by unfold frs; rw [List.filterMap_cons, hf]; exact List.mem_cons_of_mem _ hb)) hr⟩
  exact all X.outer (fun _ hb => hb) I.ok.funs
theorem Inv.stack (I : Inv X pins σ H s) : s.heap.FunFrames X.base X.stack := by
  rcases I.ok.stk with e | ⟨e, hf⟩
  · rw [e]; exact I.funs
  · rw [e]
    obtain ⟨m, hn, _⟩ := I.loc
    refine .cons (by rw [I.ok.kind]; decide) hf hn ?_ I.funs
    exact Heap.get?_none_of_le (Nat.le_trans I.ok.bsz I.ok.above)
theorem Inv.stkSub (I : Inv X pins σ H s) : ∀ b ∈ frs X.stack, b ∈ X.env.locals :: X.fs := fun b hb => by
  rcases I.ok.stk with e | ⟨e, hf⟩
  · rw [e] at hb; exact List.mem_cons_of_mem _ hb
  · rw [e] at hb
    unfold frs at hb
    rw [List.filterMap_cons, hf] at hb
    exact hb
theorem Inv.stkFree (I : Inv X pins σ H s) : ∀ b ∈ frs X.stack, H b = none := fun b hb => by
  rcases List.mem_cons.mp (I.stkSub b hb) with e | hb
  · rw [e]; exact I.free
  · obtain ⟨_, o, ho, _⟩ := I.ok.funs.mem hb
    exact I.base.free b o ho (I.ok.frf b hb) fun z => I.ok.exfs b z hb
theorem Inv.step {g' : Array GenState} {t' : Nat} {d' : Drawn} {ch : List Addr} (I : Inv X pins σ H s)
    (hch : ∀ b ∈ ch, (b ∈ X.ex ∨ X.s₀.heap.objs.size ≤ b) ∧ b ≠ X.env.locals ∧ (∀ x c, X.env.cells.lookup x = some c → c ≠ b) ∧ ∀ p ∈ X.pn ++ pins, p.1 ≠ b)
    (keep : ∀ b o, b ≠ X.env.locals → b ∉ X.fs → b ∉ ch → s.heap.get? b = some o → H b = none → h'.get? b = some o)
    (slot : ∀ b o, b ≠ X.env.locals → b ∈ X.fs → b ∉ ch → s.heap.get? b = some o → H b = none → ∃ sl, h'.get? b = some { o with slots := sl }) (free : ∀ b o, b ∉ ch → s.heap.get? b = some o → H b = none → H' b = none)
    (there : ∀ b o, b ∉ ch → s.heap.get? b = some o → ∃ o', h'.get? b = some o')
    (tups : ∀ b xs, H b = some (.tup xs) → H' b = some (.tup xs)) (frzs : ∀ b o u, H b = some (.frz o u) → H' b = some (.frz o u)) (tbls : ∀ b ps, H b = some (.tbl ps) → ∃ more, H' b = some (.tbl (ps ++ more)))
    (ns : ∀ m, s.heap.Ns X.env.locals m → h'.Ns X.env.locals m) (hok : HOk X.prog X.w H' h') (hg : AllBare g') :
    Inv X pins σ H' { s with heap := h', gens := g', drawn := d', toks := t' } := by
  have neL : ∀ b o, X.s₀.heap.get? b = some o → b ≠ X.env.locals := fun b o e => Nat.ne_of_lt (Nat.lt_of_lt_of_le (Heap.lt_size e) I.ok.above)
  have neC : ∀ b o, X.s₀.heap.get? b = some o → b ∉ X.ex → b ∉ ch := fun b o e hx hb => by
    rcases (hch b hb).1 with z | z
    · exact hx z
    · exact absurd (Nat.lt_of_lt_of_le (Heap.lt_size e) z) (Nat.lt_irrefl _)
  have cellK : ∀ x c, X.env.cells.lookup x = some c → ∀ v, s.heap.IsCell c v → h'.IsCell c v := fun x c e v ⟨o, ho, hd⟩ => by
    have nch : c ∉ ch := fun z => (hch c z).2.2.1 x c e rfl
    by_cases hc : c ∈ X.fs
    · obtain ⟨sl, q⟩ := slot c o (I.cne x c e) hc nch ho (I.freeC x c e)
      exact ⟨_, q, hd⟩
    · exact ⟨o, keep c o (I.cne x c e) hc nch ho (I.freeC x c e), hd⟩
  refine ⟨I.ok, I.os, hg, ⟨fun b o e n hb hx => ?_, fun b o e n hb hx => ?_, fun b o e n hx => ?_, fun b o e hx => ?_, fun b xs e => tups b xs (I.base.tups b xs e), fun b o xs e => frzs b o xs (I.base.frzs b o xs e), fun b ps e => ?_⟩, ?_, fun x c e => ?_, ?_, fun x c e => ?_, fun p hp => ?_, hok, I.len⟩
  · exact keep b o (neL b o e) hb (neC b o e hx) (I.base.keep b o e n hb hx) (I.base.free b o e n hx)
  · obtain ⟨sl, e1⟩ := I.base.slot b o e n hb hx
    obtain ⟨sl', e2⟩ := slot b _ (neL b o e) hb (neC b o e hx) e1 (I.base.free b o e n hx)
    exact ⟨sl', e2⟩
  · obtain ⟨o', e1⟩ := I.base.there b o e hx
    exact free b o' (neC b o e hx) e1 (I.base.free b o e n hx)
  · obtain ⟨o', e1⟩ := I.base.there b o e hx
    exact there b o' (neC b o e hx) e1
  · obtain ⟨m1, e1⟩ := I.base.tbls b ps e
    obtain ⟨m2, e2⟩ := tbls b _ e1
    exact ⟨m1 ++ m2, by rw [e2, Array.append_assoc]⟩
  · obtain ⟨m, hn, hl⟩ := I.loc
    refine ⟨m, ns m hn, fun i x v e1 e2 e3 => ?_⟩
    obtain ⟨u, r, l⟩ := hl i x v e1 e2 e3
    refine ⟨u, r, ?_⟩
    rcases l with l | ⟨k, c, e, z⟩
    · exact .inl l
    · exact .inr ⟨k, c, e, cellK x c e _ z⟩
  · obtain ⟨v, z⟩ := I.cell x c e
    exact ⟨v, cellK x c e v z⟩
  · obtain ⟨m, ⟨o, _, _, ho, _⟩, _⟩ := I.loc
    exact free _ o (fun z => (hch _ z).2.1 rfl) ho I.free
  · obtain ⟨v, o, ho, hd⟩ := I.cell x c e
    exact free c o (fun z => (hch c z).2.2.1 x c e rfl) ho (I.freeC x c e)
  · obtain ⟨e, n, ne, nf, d⟩ := I.pin p hp
    have nch : p.1 ∉ ch := fun z => (hch p.1 z).2.2.2 p hp rfl
    exact ⟨keep p.1 p.2 ne nf nch e n, free p.1 p.2 nch e n, ne, nf, d⟩
theorem Inv.un {t' : Nat} (I : Inv X pins σ H s) (u : Un X.fs [] H H' s.heap h') (hok : HOk X.prog X.w H' h') : Inv X pins σ H' { s with heap := h', toks := t' } := by
  obtain ⟨m, ⟨o, es, ep, ho, r⟩, _⟩ := id I.loc
  obtain ⟨sl, hL⟩ := u.any ho I.free (by simp)
  exact I.step (g' := s.gens) (d' := s.drawn) (ch := []) (fun _ z => nomatch z) (fun b o _ hb _ e n => u.keep b o e n hb (by simp)) (fun b o _ hb _ e n => u.slot b o e n hb (by simp)) (fun b o _ e n => u.free b o e n (by simp)) (fun b o _ e => u.there b o e (by simp)) u.tups u.frzs u.tbls (fun m' hm => by
    obtain ⟨o', es', ep', ho', r'⟩ := hm
    rw [ho] at ho'; cases ho'
    exact ⟨_, es', ep', hL, r'⟩) hok I.bare
theorem Inv.call {g' : Array GenState} {t' : Nat} {d' : Drawn} {ch : List Addr} (I : Inv X pins σ H s) (u : Un (frs X.stack) ch H H' s.heap h') (hok : HOk X.prog X.w H' h') (hg : AllBare g')
    (hch : ∀ b ∈ ch, (b ∈ X.ex ∨ X.s₀.heap.objs.size ≤ b) ∧ b ≠ X.env.locals ∧ (∀ x c, X.env.cells.lookup x = some c → c ≠ b) ∧ ∀ p ∈ X.pn ++ pins, p.1 ≠ b) :
    Inv X pins σ H' { s with heap := h', gens := g', drawn := d', toks := t' } := by
  obtain ⟨m, ⟨o, es, ep, ho, r⟩, _⟩ := id I.loc
  obtain ⟨sl, hL⟩ := u.any ho I.free fun z => (hch _ z).2.1 rfl
  exact I.step (ch := ch) hch (fun b o hL hb hc e n => u.keep b o e n (fun z => (List.mem_cons.mp (I.stkSub b z)).elim hL hb) hc) (fun b o _ _ hc e n => u.any e n hc) (fun b o hc e n => u.free b o e n hc) (fun b o hc e => u.there b o e hc) u.tups u.frzs u.tbls (fun m' hm => by
    obtain ⟨o', es', ep', ho', r'⟩ := hm
    rw [ho] at ho'; cases ho'
    exact ⟨_, es', ep', hL, r'⟩) hok hg
theorem Inv.turned {t' : Nat} {it : Addr} (I : Inv X pins σ H s) (k : ∀ b o, b ≠ it → s.heap.get? b = some o → h'.get? b = some o) (hn : H it = none) (hL : it ≠ X.env.locals)
    (h1 : it ∈ X.ex ∨ X.s₀.heap.objs.size ≤ it) (h2 : ∀ x c, X.env.cells.lookup x = some c → c ≠ it) (h3 : ∀ p ∈ X.pn ++ pins, p.1 ≠ it) : Inv X pins σ H { s with heap := h', toks := t' } := by
  have nit : ∀ b u, H b = some u → b ≠ it := fun b u e z => by rw [z, hn] at e; cases e
  refine I.step (g' := s.gens) (d' := s.drawn) (ch := [it]) (fun b hb => ?_) (fun b o _ _ hc e _ => k b o (fun z => hc (by simp [z])) e) (fun b o _ _ hc e _ => ⟨o.slots, k b o (fun z => hc (by simp [z])) e⟩) (fun _ _ _ _ n => n)
    (fun b o hc e => ⟨o, k b o (fun z => hc (by simp [z])) e⟩) (fun _ _ e => e) (fun _ _ _ e => e) (fun b ps e => ⟨#[], by rw [e]; simp⟩) (fun m hm => ?_) (fun b u e => ?_) I.bare
  · have e : b = it := by simpa using hb
    subst e
    exact ⟨h1, hL, h2, h3⟩
  · obtain ⟨o, es, ep, ho, r⟩ := hm
    exact ⟨o, es, ep, k _ o (Ne.symm hL) ho, r⟩
  · refine (I.hok b u e).stay (fun c v hc q => k c v ?_ q) (fun _ q => q) fun _ _ q => q
    rcases hc with z | z
    · rw [z]; exact nit b u e
    · exact nit c _ z
theorem Inv.tok (I : Inv X pins σ H s) (t : Nat) : Inv X pins σ H { s with toks := t } := I.un (h' := s.heap) (t' := t) Un.refl I.hok
theorem Inv.kept {t' : Nat} (I : Inv X pins σ H s) (k : ∀ b u, s.heap.get? b = some u → h'.get? b = some u) : Inv X pins σ H { s with heap := h', toks := t' } := I.un (Un.kept k) (I.hok.kept k)
theorem Inv.laid {a : Addr} {o : HO} {t' : Nat} (I : Inv X pins σ H s) (k : ∀ b u, s.heap.get? b = some u → h'.get? b = some u) (hp : s.heap.objs.size ≤ a) (new : ObjOk X.prog X.w (upd H a o) h' a o) :
    Inv X pins σ (upd H a o) { s with heap := h', toks := t' } := I.un (Un.laid k hp (I.hok.fresh hp)) (I.hok.laid k hp new)
theorem Inv.write {x e : Addr} {o : HO} {t' : Nat} (I : Inv X pins σ H s) (mu : Mut (H x)) (he : e = x ∨ H e = some (.own x)) (k : ∀ b u, b ≠ e → s.heap.get? b = some u → h'.get? b = some u) (heo : ∃ u, h'.get? e = some u)
    (new : ObjOk X.prog X.w (upd H x o) h' x o) : Inv X pins σ (upd H x o) { s with heap := h', toks := t' } := I.un (Un.write mu he k heo) (I.hok.write mu he k heo new)
theorem Inv.pins_of {pins' : List (Addr × Obj)} (I : Inv X pins σ H s) (h : ∀ p ∈ pins', s.heap.get? p.1 = some p.2 ∧ H p.1 = none ∧ p.1 ≠ X.env.locals ∧ p.1 ∉ X.fs ∧ ∀ v, p.2.data ≠ .cell v) : Inv X pins' σ H s :=
  ⟨I.ok, I.os, I.bare, I.base, I.loc, I.cell, I.free, I.freeC, fun p hp => (List.mem_append.mp hp).elim (fun z => I.pin p (List.mem_append_left _ z)) (h p), I.hok, I.len⟩
theorem nodup_ix {N : List Str} (hN : N.Nodup) {i j : Nat} {x : Str} (a : N[i]? = some x) (b : N[j]? = some x) : i = j := by
  obtain ⟨h1, e1⟩ := List.getElem?_eq_some_iff.mp a
  obtain ⟨h2, e2⟩ := List.getElem?_eq_some_iff.mp b
  exact (List.getElem_inj hN).mp (e1.trans e2.symm)
theorem store_ok2 {M : Model} {A : Around} {E : Value → Shared → Prop} {i : Nat} {x : Str} {v : V} {u : Value} {Q : Unit → Shared → Prop} (I : Inv X pins σ H s) (hN : X.N.Nodup) (hi : X.N[i]? = some x) (hx : Loc X.env.scope x) (r : RelV v u)
    (h : ∀ s', Inv X pins (σ.set i (some v)) H s' → (∃ a, Heap.SameBut a s.heap s'.heap ∧ (a = X.env.locals ∨ X.env.cells.lookup x = some a)) → Q () s') (hf : X.fn x = true ∨ X.env.scope.names.lookup x = some .local := by first | exact .inl rfl | exact .inr rfl | assumption) : wpAny M A (storeName X.env x u) Q E s := by
  obtain ⟨m, hn, hl⟩ := id I.loc
  have hcls : (X.env.scope.kind == .class || (X.env.scope.kind == .module && X.env.locals != X.env.globals)) = false := by rw [I.ok.kind]; rfl
  have hiσ : i < σ.length := by rw [I.len]; exact (List.getElem?_eq_some_iff.mp hi).1
  have cne := I.cne
  have tracked : ∀ {a : Addr} {h' : Heap}, (∃ o, s.heap.get? a = some o ∧ H a = none) → Heap.SameBut a s.heap h' → HOk X.prog X.w H h' := fun {a h'} ha hs b ob e => by
    obtain ⟨_, _, hfree⟩ := ha
    refine (I.hok b ob e).stay (fun c w' hc q => (hs.2 c ?_).trans q) (fun _ q => q) fun _ _ q => q
    rintro rfl
    rcases hc with rfl | hc
    · rw [hfree] at e; cases e
    · rw [hfree] at hc; cases hc
  rcases hx with hk | hk
  · refine wpAny_storeName_local hk hn (fun h' hn' hs => ?_) hcls
    obtain ⟨oL, _, _, hoL, _⟩ := id hn
    refine h _ ⟨I.ok, I.os, I.bare, ⟨fun b o e n hb hx => ?_, fun b o e n hb hx => ?_, I.base.free, fun b o e hx => ?_, I.base.tups, I.base.frzs, I.base.tbls⟩, ⟨_, hn', fun j y v' e1 e2 e3 => ?_⟩, fun y c e => ?_, I.free, I.freeC, fun p hp => ?_, tracked ⟨oL, hoL, I.free⟩ hs, by simpa using I.len⟩ ⟨_, hs, .inl rfl⟩
    · exact (hs.2 b (Nat.ne_of_lt (Nat.lt_of_lt_of_le (Heap.lt_size e) I.ok.above))).trans (I.base.keep b o e n hb hx)
    · obtain ⟨sl, e1⟩ := I.base.slot b o e n hb hx
      exact ⟨sl, (hs.2 b (Nat.ne_of_lt (Nat.lt_of_lt_of_le (Heap.lt_size e) I.ok.above))).trans e1⟩
    · obtain ⟨o', e1⟩ := I.base.there b o e hx
      exact ⟨o', (hs.2 b (Nat.ne_of_lt (Nat.lt_of_lt_of_le (Heap.lt_size e) I.ok.above))).trans e1⟩
    · by_cases hj : j = i
      · subst hj
        rw [hi] at e1; cases e1
        rw [List.getElem?_set_self hiσ] at e2
        cases e2
        exact ⟨u, r, .inl ⟨hk, by simp⟩⟩
      · rw [List.getElem?_set_ne (Ne.symm hj)] at e2
        obtain ⟨u', r', q⟩ := hl j y v' e1 e2 e3
        refine ⟨u', r', ?_⟩
        rcases q with ⟨k, e⟩ | ⟨k, c, e, z⟩
        · refine .inl ⟨k, ?_⟩
          have : y ≠ x := fun e => hj (nodup_ix hN e1 (e ▸ hi))
          simp [this, e]
        · exact .inr ⟨k, c, e, z.sameBut hs (cne y c e)⟩
    · obtain ⟨w', z⟩ := I.cell y c e
      exact ⟨w', z.sameBut hs (cne y c e)⟩
    · obtain ⟨e, n, ne, nf, d⟩ := I.pin p hp
      exact ⟨(hs.2 p.1 ne).trans e, n, ne, nf, d⟩
  · have hfn : X.fn x = true := by
      rcases hf with z | z
      · exact z
      · rw [z] at hk; cases hk
    obtain ⟨c, hc⟩ := I.ok.has x (.inl hk)
    obtain ⟨w', z⟩ := I.cell x c hc
    refine wpAny_storeName_cell I.ok.kind hk hc z (fun h' hc' hs => ?_)
    obtain ⟨oc, hoc, hocd⟩ := id z
    refine h { s with heap := h' } ⟨I.ok, I.os, I.bare, ⟨fun b o e n hb hx => ?_, fun b o e n hb hx => ?_, I.base.free, fun b o e hx => ?_, I.base.tups, I.base.frzs, I.base.tbls⟩, ⟨m, hn.sameBut hs (Ne.symm (cne x c hc)), fun j y v' e1 e2 e3 => ?_⟩, fun y c' e => ?_, I.free, I.freeC, fun p hp => ?_, tracked ⟨oc, hoc, I.freeC x c hc⟩ hs, by simpa using I.len⟩ ⟨c, hs, .inr hc⟩
    · exact (hs.2 b (Nat.ne_of_lt (Nat.lt_of_lt_of_le (Heap.lt_size e) (I.ok.cab x c hfn hc)))).trans (I.base.keep b o e n hb hx)
    · obtain ⟨sl, e1⟩ := I.base.slot b o e n hb hx
      exact ⟨sl, (hs.2 b (Nat.ne_of_lt (Nat.lt_of_lt_of_le (Heap.lt_size e) (I.ok.cab x c hfn hc)))).trans e1⟩
    · obtain ⟨o', e1⟩ := I.base.there b o e hx
      exact ⟨o', (hs.2 b (Nat.ne_of_lt (Nat.lt_of_lt_of_le (Heap.lt_size e) (I.ok.cab x c hfn hc)))).trans e1⟩
    · by_cases hj : j = i
      · subst hj
        rw [hi] at e1; cases e1
        rw [List.getElem?_set_self hiσ] at e2
        cases e2
        exact ⟨u, r, .inr ⟨.inl hk, c, hc, hc'⟩⟩
      · rw [List.getElem?_set_ne (Ne.symm hj)] at e2
        obtain ⟨u', r', q⟩ := hl j y v' e1 e2 e3
        refine ⟨u', r', ?_⟩
        rcases q with q | ⟨k, c', e, z'⟩
        · exact .inl q
        · refine .inr ⟨k, c', e, z'.sameBut hs ?_⟩
          rintro rfl
          exact hj (nodup_ix hN e1 (I.ok.inj _ _ _ e hc ▸ hi))
    · by_cases hcc : c' = c
      · subst hcc; exact ⟨_, hc'⟩
      · obtain ⟨w2, z2⟩ := I.cell y c' e
        exact ⟨w2, z2.sameBut hs hcc⟩
    · obtain ⟨e, n, ne, nf, d⟩ := I.pin p hp
      refine ⟨(hs.2 p.1 ?_).trans e, n, ne, nf, d⟩
      intro q
      rw [q, hoc] at e
      have q' : oc = p.2 := Option.some.inj e
      exact d w' (by rw [← q']; exact hocd)
theorem store_ok {M : Model} {A : Around} {E : Value → Shared → Prop} {i : Nat} {x : Str} {v : V} {u : Value} {Q : Unit → Shared → Prop} (I : Inv X pins σ H s) (hN : X.N.Nodup) (hi : X.N[i]? = some x) (hx : Loc X.env.scope x) (r : RelV v u)
    (h : ∀ s', Inv X pins (σ.set i (some v)) H s' → Q () s') (hf : X.fn x = true ∨ X.env.scope.names.lookup x = some .local := by first | exact .inl rfl | exact .inr rfl | assumption) : wpAny M A (storeName X.env x u) Q E s :=
  store_ok2 I hN hi hx r (fun s' I' _ => h s' I') hf
theorem Inv.call' {s' : Shared} {ch : List Addr} (I : Inv X pins σ H s) (ho : s'.os = s.os) (u : Un (frs X.stack) ch H H' s.heap s'.heap) (hok : HOk X.prog X.w H' s'.heap) (hg : AllBare s'.gens)
    (hch : ∀ b ∈ ch, (b ∈ X.ex ∨ X.s₀.heap.objs.size ≤ b) ∧ b ≠ X.env.locals ∧ (∀ x c, X.env.cells.lookup x = some c → c ≠ b) ∧ ∀ p ∈ X.pn ++ pins, p.1 ≠ b) : Inv X pins σ H' s' := by
  obtain ⟨h', g', d', t', o'⟩ := s'
  have e : o' = s.os := ho
  subst e
  exact I.call (g' := g') (t' := t') (d' := d') u hok hg hch
end
abbrev XK := Value → Option Addr → Hp → Prop
abbrev St := List (Option V)
abbrev VK := V → Hp → Prop
abbrev TE := St → Hp → VK → Prop
abbrev TT := St → Hp → (Bool → Hp → Prop) → Prop
abbrev TA := St → Hp → (List V → Hp → Prop) → Prop
structure Ends where
  nx : St → Hp → Prop
  rt : VK
  bk : St → Hp → Prop := fun _ _ => False
  ct : St → Hp → Prop := fun _ _ => False
abbrev TS := Ends → St → Hp → Prop
def EP (X : Cx) (pins : List (Addr × Obj)) (σ : St) (Q : VK) (u : Value) (s' : Shared) : Prop := ∃ v H', Inv X pins σ H' s' ∧ RelV v u ∧ Q v H'
def TP (X : Cx) (pins : List (Addr × Obj)) (σ : St) (Q : Bool → Hp → Prop) (b : Bool) (s' : Shared) : Prop := ∃ H', Inv X pins σ H' s' ∧ Q b H'
def AP (X : Cx) (pins : List (Addr × Obj)) (σ : St) (Q : List V → Hp → Prop) (us : List Value) (s' : Shared) : Prop := ∃ vs H', Inv X pins σ H' s' ∧ Vals vs us ∧ Q vs H'
def SP (X : Cx) (pins : List (Addr × Obj)) (D : Ends) (f : Flow) (s' : Shared) : Prop :=
  match f with
  | .next => ∃ σ' H', Inv X pins σ' H' s' ∧ D.nx σ' H'
  | .brk => ∃ σ' H', Inv X pins σ' H' s' ∧ D.bk σ' H'
  | .cont => ∃ σ' H', Inv X pins σ' H' s' ∧ D.ct σ' H'
  | .ret u => ∃ v σ' H', Inv X pins σ' H' s' ∧ RelV v u ∧ D.rt v H'
def PE (X : Cx) (e : Expr) (t : TE) : Prop :=
  ∀ (pins : List (Addr × Obj)) (s : Shared) (σ : St) (H : Hp) (Q : VK), Inv X pins σ H s → t σ H Q → wpAny (model X.prog X.w) X.A (eval e X.env) (EP X pins σ Q) X.xe s
def PT (X : Cx) (e : Expr) (t : TT) : Prop :=
  ∀ (pins : List (Addr × Obj)) (s : Shared) (σ : St) (H : Hp) (Q : Bool → Hp → Prop), Inv X pins σ H s → t σ H Q → wpAny (model X.prog X.w) X.A (isTrue e X.env (eval e X.env)) (TP X pins σ Q) X.xe s
def PW (X : Cx) (e : Expr) (t : TT) : Prop :=
  ∀ (whole : Sem Value) (pins : List (Addr × Obj)) (s : Shared) (σ : St) (H : Hp) (Q : Bool → Hp → Prop), Inv X pins σ H s → t σ H Q → wpAny (model X.prog X.w) X.A (isTrue e X.env whole) (TP X pins σ Q) X.xe s
theorem PW.pt {X : Cx} {e : Expr} {t : TT} (h : PW X e t) : PT X e t := h _
def PA (X : Cx) (es : List Expr) (t : TA) : Prop :=
  ∀ (pos : Pos) (pins : List (Addr × Obj)) (s : Shared) (σ : St) (H : Hp) (Q : List V → Hp → Prop), Inv X pins σ H s → t σ H Q → wpAny (model X.prog X.w) X.A (spliced (backTo pos (starEach es X.env))) (AP X pins σ Q) X.xe s
def PS (X : Cx) (st : Stmt) (t : TS) : Prop :=
  ∀ (pins : List (Addr × Obj)) (s : Shared) (σ : St) (H : Hp) (D : Ends), Inv X pins σ H s → t D σ H → wpAny (model X.prog X.w) X.A (exec st X.env) (SP X pins D) X.xe s
def PSs (X : Cx) (st : List Stmt) (t : TS) : Prop :=
  ∀ (pins : List (Addr × Obj)) (s : Shared) (σ : St) (H : Hp) (D : Ends), Inv X pins σ H s → t D σ H → wpAny (model X.prog X.w) X.A (execs st X.env) (SP X pins D) X.xe s
theorem thn {α : Type} {t : Sem α} {Q Q' : α → Shared → Prop} {M : Model} {A : Around} {E : Value → Shared → Prop} {s : Shared} (h : wpAny M A t Q E s) (hQ : ∀ a s, Q a s → Q' a s) : wpAny M A t Q' E s := wpAny_mono h hQ fun _ _ x => x
end L2
namespace L2
open PySem PySem.Spec PyProof.Rows
section
variable {X : Cx}
def tVar (i : Nat) : TE := fun σ H Q => ∃ v, σ[i]? = some (some v) ∧ Q v H
def tC (v : V) : TE := fun _ H Q => Q v H
theorem pe_var {i : Nat} {x : Str} {pos : Pos} (hN : X.N[i]? = some x) (hv : Vis X.env.scope x) (hd : (x == ("__debug__" : Str)) = false := by decide) (hcd : (x == ("__classdict__" : Str)) = false := by decide) : PE X (.Name x pos) (tVar i) := by
  intro pins s σ H Q I h
  obtain ⟨v, e, h⟩ := h
  obtain ⟨m, hn, hl⟩ := I.loc
  obtain ⟨u, r, l⟩ := hl i x v hN e hv
  have fin : EP X pins σ Q u s := ⟨v, H, I, r, h⟩
  rcases l with ⟨hk, hm⟩ | ⟨hk, c, hc, hcell⟩
  · exact wpAny_Name (wpAny_loadName_local I.ok.kind hk hn hm fin) hd
  · rcases hk with hk | hk
    · exact wpAny_Name (wpAny_loadName_cell I.ok.kind hk hc hcell fin) hd
    · exact wpAny_Name (wpAny_loadName_free I.ok.kind hk hc hcell fin hcd) hd
theorem pe_int {i j pos} : PE X (.Constant (.int i) j pos) (tC (.int i)) := fun _ _ _ H _ I h => wpAny_Constant_int ⟨.int i, H, I.tok _, ⟨_, rfl⟩, h⟩
theorem pe_bl {b j pos} : PE X (.Constant (.bool b) j pos) (tC (.bl b)) := fun _ _ _ H _ I h => Constant_bool ⟨.bl b, H, I, rfl, h⟩
theorem pe_non {j pos} : PE X (.Constant .none j pos) (tC .non) := fun _ _ _ H _ I h => Constant_none ⟨.non, H, I, rfl, h⟩
theorem pe_str {x j pos} : PE X (.Constant (.str x) j pos) (tC (.str x)) := fun _ _ _ H _ I h => Calls.Constant_str ⟨.str x, H, I.tok _, ⟨_, rfl⟩, h⟩
def Gl (X : Cx) (x : Str) : Prop := X.env.kindOf x = some .globalImplicit
theorem ld_glob {E : Value → Shared → Prop} {pins : List (Addr × Obj)} {s : Shared} {σ : St} {H : Hp} {x : Str} {u : Value} {pos : Pos} {Q : Value → Shared → Prop} (I : Inv X pins σ H s) (hg : Gl X x) (hm : X.mg x = some u) (h : Q u s)
    (hd : (x == ("__debug__" : Str)) = false := by decide) : wpAny (model X.prog X.w) X.A (eval (.Name x pos) X.env) Q E s :=
  Calls.Name_function_global I.ok.kind hg (Calls.loadGlobal_global (by rw [I.ok.glob]; exact I.mod.glob.keeps I.bk) hm h) hd
theorem ld_blt {E : Value → Shared → Prop} {pins : List (Addr × Obj)} {s : Shared} {σ : St} {H : Hp} {x : Str} {u : Value} {pos : Pos} {Q : Value → Shared → Prop} (I : Inv X pins σ H s) (hg : Gl X x) (hm : X.mg x = none) (hv : bootBuiltins x = some u) (h : Q u s)
    (hn : x ≠ "__name__" := by decide) (hd : (x == ("__debug__" : Str)) = false := by decide) : wpAny (model X.prog X.w) X.A (eval (.Name x pos) X.env) Q E s := by
  obtain ⟨mb, h1, h2⟩ := I.mod.blt
  exact Calls.Name_function_global I.ok.kind hg (Calls.loadGlobal_builtin (by rw [I.ok.glob]; exact I.mod.glob.keeps I.bk) hm (by rw [I.ok.blt]; exact h1.keeps I.bk) ((h2 x hn).trans hv) h) hd
theorem pe_glob {x : Str} {v : V} {u : Value} {pos : Pos} (hg : Gl X x) (hm : X.mg x = some u) (r : RelV v u) (hd : (x == ("__debug__" : Str)) = false := by decide) : PE X (.Name x pos) (tC v) :=
  fun _ _ _ H _ I h => ld_glob I hg hm ⟨v, H, I, r, h⟩ hd
theorem pe_bltn {x : Str} {v : V} {u : Value} {pos : Pos} (hg : Gl X x) (hm : X.mg x = none) (hv : bootBuiltins x = some u) (r : RelV v u) (hn : x ≠ "__name__" := by decide) (hd : (x == ("__debug__" : Str)) = false := by decide) : PE X (.Name x pos) (tC v) :=
  fun _ _ _ H _ I h => ld_blt I hg hm hv ⟨v, H, I, r, h⟩ hn hd
variable {a b : Expr} {ta tb : TE} {pos : Pos}
def tB (t : TE) : TT := fun σ H Q => t σ H fun x H1 => ∃ c, x = .bl c ∧ Q c H1
theorem pt_val {e : Expr} {t : TE} (h : PE X e t) (he : ∀ whole, isTrue e X.env whole = (do let v ← whole; standAt e.pos; holding [v] (truthy v)) := by intro _; rfl) : PT X e (tB t) := by
  intro pins s σ H Q I hw
  refine isTrue_plain (thn (h pins s σ H _ I hw) fun v s1 ⟨x, H1, I1, r1, q1⟩ => ?_) (he _)
  obtain ⟨d, rfl, q⟩ := q1
  cases r1
  exact wpAny_truthy_bool ⟨H1, I1, q⟩
variable {tA tB' : TT} {rest : List Expr}
def tAnd (t u : TT) : TT := fun σ H Q => t σ H fun c H1 => if c = true then u σ H1 Q else Q false H1
def tOr (t u : TT) : TT := fun σ H Q => t σ H fun c H1 => if c = true then Q true H1 else u σ H1 Q
def tNot (t : TT) : TT := fun σ H Q => t σ H fun c H1 => Q (!c) H1
theorem pw_and1 (ha : PT X a tA) : PW X (.BoolOp .And [a] pos) tA := by
  intro wh pins s σ H Q I h
  refine isTrue_and (thn (ha pins s σ H Q I h) fun c s1 e => ?_)
  cases c with
  | true => exact isTrue_and_nil e
  | false => exact e
theorem pw_or1 (ha : PT X a tA) : PW X (.BoolOp .Or [a] pos) tA := by
  intro wh pins s σ H Q I h
  refine isTrue_or (thn (ha pins s σ H Q I h) fun c s1 e => ?_)
  cases c with
  | false => exact isTrue_or_nil e
  | true => exact e
theorem pw_and (ha : PT X a tA) (hb : PW X (.BoolOp .And (b :: rest) pos) tB') : PW X (.BoolOp .And (a :: b :: rest) pos) (tAnd tA tB') := by
  intro wh pins s σ H Q I h
  refine isTrue_and (thn (ha pins s σ H _ I h) fun c s1 ⟨H1, I1, q1⟩ => ?_)
  cases c with
  | true => exact hb wh pins s1 σ H1 Q I1 q1
  | false => exact ⟨H1, I1, q1⟩
theorem pw_or (ha : PT X a tA) (hb : PW X (.BoolOp .Or (b :: rest) pos) tB') : PW X (.BoolOp .Or (a :: b :: rest) pos) (tOr tA tB') := by
  intro wh pins s σ H Q I h
  refine isTrue_or (thn (ha pins s σ H _ I h) fun c s1 ⟨H1, I1, q1⟩ => ?_)
  cases c with
  | true => exact ⟨H1, I1, q1⟩
  | false => exact hb wh pins s1 σ H1 Q I1 q1
theorem pt_not (ha : PT X a tA) : PT X (.UnaryOp .Not a pos) (tNot tA) := by
  intro pins s σ H Q I h
  exact isTrue_not (ha pins s σ H (fun c H1 => Q (!c) H1) I h)
def tAndV (ta tb : TE) : TE := fun σ H Q => ta σ H fun x H1 => ∃ c, x = .bl c ∧ if c = true then tb σ H1 Q else Q (.bl false) H1
def tNotV (ta : TE) : TE := fun σ H Q => ta σ H fun x H1 => ∃ c, x = .bl c ∧ Q (.bl (!c)) H1
theorem pe_one {op} {t : TE} (h : PE X a t) : PE X (.BoolOp op [a] pos) t := fun pins s σ H Q I hw => BoolOp_one (h pins s σ H Q I hw)
theorem pe_and (ha : PE X a ta) (hb : PE X (.BoolOp .And (b :: rest) pos) tb) : PE X (.BoolOp .And (a :: b :: rest) pos) (tAndV ta tb) := by
  intro pins s σ H Q I h
  refine BoolOp_and (thn (ha pins s σ H _ I h) fun v s1 ⟨x, H1, I1, r1, q1⟩ => ?_)
  obtain ⟨c, rfl, q1⟩ := q1
  cases r1
  refine wpAny_truthy_bool ?_
  cases c with
  | true => exact hb pins s1 σ H1 Q I1 q1
  | false => exact ⟨.bl false, H1, I1, rfl, q1⟩
theorem pe_not (ha : PE X a ta) : PE X (.UnaryOp .Not a pos) (tNotV ta) := by
  intro pins s σ H Q I h
  refine UnaryOp_ (thn (ha pins s σ H _ I h) fun v s1 ⟨x, H1, I1, r1, q1⟩ => ?_)
  obtain ⟨c, rfl, q1⟩ := q1
  cases r1
  exact not_of (wpAny_truthy_bool ⟨.bl (!c), H1, I1, rfl, q1⟩)
end
end L2
namespace L2
open PySem PySem.Spec PyProof.Rows
def SqL (K : PySem.W.Frag) (H : Hp) (a : Addr) (xs : List V) : Prop :=
  Rd H a (.lst xs) ∨
    ∃ (o : Obj) (its : Array Value) (n : Nat), K.lookup a = some o ∧ o.cls = .type "list" ∧ o.dict = none ∧ o.data = .seq its n ∧ its.size ≤ sizeLine ∧ Vals xs its.toList
def SqT (K : PySem.W.Frag) (H : Hp) (a : Addr) (xs : List V) : Prop :=
  Rd H a (.tup xs) ∨
    ∃ (o : Obj) (its : Array Value) (n : Nat), K.lookup a = some o ∧ o.cls = .type "tuple" ∧ o.data = .seq its n ∧ its.size ≤ sizeLine ∧ Vals xs its.toList
def absV : Value → Option V
  | .none => some .non
  | .bool b => some (.bl b)
  | .int i _ => some (.int i)
  | .str x _ => some (.str x)
  | .bytes b _ => some (.byt b)
  | .float b _ => some (.flt b)
  | .ref a => some (.ref a)
  | .type n => some (.ty n)
  | _ => none
theorem RelV.abs {x : V} {u : Value} (r : RelV x u) : absV u = some x := by
  cases x with
  | non => cases r; rfl
  | bl _ => cases r; rfl
  | int _ => obtain ⟨t, rfl⟩ := r; rfl
  | str _ => obtain ⟨t, rfl⟩ := r; rfl
  | byt _ => obtain ⟨t, rfl⟩ := r; rfl
  | flt _ => obtain ⟨t, rfl⟩ := r; rfl
  | ref _ => cases r; rfl
  | ty _ => cases r; rfl
theorem RelV.inj {x y : V} {u : Value} (r : RelV x u) (q : RelV y u) : x = y := Option.some.inj (r.abs.symm.trans q.abs)
theorem Vals.inj : ∀ {xs ys : List V} {us : List Value}, Vals xs us → Vals ys us → xs = ys
  | _, _, _, .nil, .nil => rfl
  | _, _, _, .cons r t, .cons r' t' => by rw [r.inj r', Vals.inj t t']
section
variable {X : Cx} {pins : List (Addr × Obj)} {σ : St} {H : Hp} {s : Shared} {a : Addr} {xs ys : List V}
theorem SqL.of {K : PySem.W.Frag} (h : H a = some (.lst xs)) : SqL K H a xs := .inl (.inl h)
theorem SqT.of {K : PySem.W.Frag} (h : H a = some (.tup xs)) : SqT K H a xs := .inl (.inl h)
theorem Inv.list (I : Inv X pins σ H s) (h : SqL X.K H a xs) : ∃ its : List Value, Vals xs its ∧ PlainL s.heap a its.toArray ∧ xs.length ≤ sizeLine := by
  rcases h with h | ⟨o, its, n, hk, hc, hd, hs, hz, r⟩
  · obtain ⟨z, its, n, r, e⟩ := h.ok I.hok
    exact ⟨its, r, ⟨_, n, e, rfl, rfl, rfl⟩, z⟩
  · refine ⟨its.toList, r, ⟨o, n, I.kIn a o hk, hc, hd, by simpa using hs⟩, ?_⟩
    have e := r.length
    simp only [Array.length_toList] at e
    omega
theorem Inv.tuple (I : Inv X pins σ H s) (h : SqT X.K H a xs) : ∃ its : List Value, Vals xs its ∧ IsTup s.heap a its.toArray ∧ xs.length ≤ sizeLine := by
  rcases h with h | ⟨o, its, n, hk, hc, hs, hz, r⟩
  · obtain ⟨z, its, r, p⟩ := h.ok I.hok
    exact ⟨its, r, p, z⟩
  · refine ⟨its.toList, r, ⟨o, I.kIn a o hk, hc, n, by simpa using hs⟩, ?_⟩
    have e := r.length
    simp only [Array.length_toList] at e
    omega
theorem Inv.list_inj (I : Inv X pins σ H s) (h : SqL X.K H a xs) (h' : SqL X.K H a ys) : xs = ys := by
  obtain ⟨its, r, ⟨o, n, e, _, _, d⟩, _⟩ := I.list h
  obtain ⟨its', r', ⟨o', n', e', _, _, d'⟩, _⟩ := I.list h'
  rw [e] at e'; cases e'
  rw [d] at d'
  injection d' with d1 _
  have : its = its' := by simpa using congrArg Array.toList d1
  subst this
  exact r.inj r'
theorem Inv.tuple_inj (I : Inv X pins σ H s) (h : SqT X.K H a xs) (h' : SqT X.K H a ys) : xs = ys := by
  obtain ⟨its, r, ⟨o, e, _, n, d⟩, _⟩ := I.tuple h
  obtain ⟨its', r', ⟨o', e', _, n', d'⟩, _⟩ := I.tuple h'
  rw [e] at e'; cases e'
  rw [d] at d'
  injection d' with d1 _
  have : its = its' := by simpa using congrArg Array.toList d1
  subst this
  exact r.inj r'
end
abbrev Cx.wish (X : Cx) (E : Value → Shared → Prop) : Cx := { X with xe := E }
abbrev Cx.nox (X : Cx) : Cx := X.wish fun _ _ => False
theorem Cx.Ok.wish {X : Cx} (ok : X.Ok) (E : Value → Shared → Prop) : (X.wish E).Ok :=
  ⟨ok.mod, ok.kind, ok.glob, ok.blt, ok.above, ok.inj, ok.has, ok.cab, ok.hd, ok.frames, ok.stk, ok.exf, ok.bs, ok.bsz, ok.noex, ok.exfs, ok.funs, ok.frf⟩
theorem Cx.Ok.unwish {X : Cx} {E : Value → Shared → Prop} (ok : (X.wish E).Ok) : X.Ok :=
  ⟨ok.mod, ok.kind, ok.glob, ok.blt, ok.above, ok.inj, ok.has, ok.cab, ok.hd, ok.frames, ok.stk, ok.exf, ok.bs, ok.bsz, ok.noex, ok.exfs, ok.funs, ok.frf⟩
section
variable {X : Cx} {pins : List (Addr × Obj)} {σ : St} {H : Hp} {s : Shared} {E : Value → Shared → Prop}
theorem Inv.wish (I : Inv X pins σ H s) (E : Value → Shared → Prop) : Inv (X.wish E) pins σ H s := ⟨I.ok.wish E, I.os, I.bare, I.base, I.loc, I.cell, I.free, I.freeC, I.pin, I.hok, I.len⟩
theorem Inv.unwish (I : Inv (X.wish E) pins σ H s) : Inv X pins σ H s := ⟨I.ok.unwish, I.os, I.bare, I.base, I.loc, I.cell, I.free, I.freeC, I.pin, I.hok, I.len⟩
theorem SP.unwish {D : Ends} {f : Flow} {s' : Shared} (h : SP (X.wish E) pins D f s') : SP X pins D f s' := by
  cases f with
  | next => obtain ⟨σ', H', I, q⟩ := h; exact ⟨σ', H', I.unwish, q⟩
  | brk => obtain ⟨σ', H', I, q⟩ := h; exact ⟨σ', H', I.unwish, q⟩
  | cont => obtain ⟨σ', H', I, q⟩ := h; exact ⟨σ', H', I.unwish, q⟩
  | ret u => obtain ⟨v, σ', H', I, r, q⟩ := h; exact ⟨v, σ', H', I.unwish, r, q⟩
theorem PT.nox {e : Expr} {t : TT} (h : PT X.nox e t) : PT X e t := fun pins s σ H Q I hw =>
  wpAny_mono (h pins s σ H Q (I.wish _) hw) (fun _ _ ⟨H', I', q⟩ => ⟨H', I'.unwish, q⟩) fun _ _ z => False.elim z
theorem PSs.nox {st : List Stmt} {t : TS} (h : PSs X.nox st t) : PSs X st t := fun pins s σ H D I hw =>
  wpAny_mono (h pins s σ H D (I.wish _) hw) (fun _ _ q => q.unwish) fun _ _ z => False.elim z
end
section
variable {X : Cx} {st : Stmt} {rest : List Stmt} {t u : TS} {e : Expr} {te : TE} {pos : Pos}
def tNext : TS := fun D σ H => D.nx σ H
def tSeq (t u : TS) : TS := fun D σ H => t { D with nx := u D } σ H
theorem pss_nil : PSs X [] tNext := fun _ _ σ H _ I h => wpAny_execs_nil ⟨σ, H, I, h⟩
theorem pss_cons (h1 : PS X st t) (h2 : PSs X rest u) : PSs X (st :: rest) (tSeq t u) := by
  intro pins s σ H D I h
  refine wpAny_execs_cons (thn (h1 pins s σ H { D with nx := u D } I h) fun f s1 q => ?_)
  cases f with
  | next =>
    obtain ⟨σ', H', I', q⟩ := q
    exact h2 pins s1 σ' H' D I' q
  | ret v => exact q
  | brk => exact q
  | cont => exact q
theorem pss_one (h1 : PS X st t) : PSs X [st] t := by
  intro pins s σ H D I h
  refine wpAny_execs_cons (thn (h1 pins s σ H D I h) fun f s1 q => ?_)
  cases f with
  | next => exact wpAny_execs_nil q
  | ret v => exact q
  | brk => exact q
  | cont => exact q
theorem Inv.quiet {pins : List (Addr × Obj)} {σ : St} {H : Hp} {s : Shared} (I : Inv X pins σ H s) : interactive X.env = false := by simp [interactive, I.ok.kind]
def tDrop (te : TE) : TS := fun D σ H => te σ H fun _ H1 => D.nx σ H1
theorem ps_expr (he : PE X e te) (hs : swapsWith e none pos.line X.env = pure false := by rfl) : PS X (.Expr e pos) (tDrop te) := by
  intro pins s σ H D I h
  exact wpAny_Expr_any (thn (he pins s σ H _ I h) fun v s1 ⟨x, H1, I1, r1, q1⟩ => ⟨σ, H1, I1, q1⟩) I.quiet hs
def tRet (te : TE) : TS := fun D σ H => te σ H D.rt
theorem ps_ret (he : PE X e te) : PS X (.Return (some e) pos) (tRet te) := by
  intro pins s σ H D I h
  exact wpAny_Return_some (thn (he pins s σ H _ I h) fun v s1 ⟨x, H1, I1, r1, q1⟩ => ⟨x, σ, H1, I1, r1, q1⟩)
def tIfS (c : TT) (t u : TS) : TS := fun D σ H => c σ H fun b H1 => if b = true then t D σ H1 else u D σ H1
theorem ps_if {c : Expr} {a b : List Stmt} {tc : TT} (hc : PT X c tc) (ha : PSs X a t) (hb : PSs X b u) : PS X (.If c a b pos) (tIfS tc t u) := by
  intro pins s σ H D I h
  refine wpAny_If (thn (hc pins s σ H _ I h) fun d s1 ⟨H1, I1, q1⟩ => ?_)
  cases d with
  | true => exact ha pins s1 σ H1 D I1 q1
  | false => exact hb pins s1 σ H1 D I1 q1
end
abbrev TG := V → St → Hp → (St → Hp → Prop) → Prop
abbrev TGs := List V → St → Hp → (St → Hp → Prop) → Prop
def PG (X : Cx) (target : Expr) (t : TG) : Prop :=
  ∀ (pins : List (Addr × Obj)) (s : Shared) (σ : St) (H : Hp) (v : V) (u : Value) (Q : St → Hp → Prop), Inv X pins σ H s → RelV v u → t v σ H Q →
    wpAny (model X.prog X.w) X.A (assign target X.env u) (fun _ s' => ∃ σ' H', Inv X pins σ' H' s' ∧ Q σ' H') X.xe s
def PGs (X : Cx) (ts : List Expr) (t : TGs) : Prop :=
  ∀ (pins : List (Addr × Obj)) (s : Shared) (σ : St) (H : Hp) (vs : List V) (us : List Value) (Q : St → Hp → Prop), Inv X pins σ H s → Vals vs us → t vs σ H Q →
    wpAny (model X.prog X.w) X.A (assignInOrder ((assignEach ts X.env).map (·.2)) us) (fun _ s' => ∃ σ' H', Inv X pins σ' H' s' ∧ Q σ' H') X.xe s
abbrev TSet := V → V → V → Hp → (Hp → Prop) → Prop
def PSet (X : Cx) (t : TSet) : Prop :=
  ∀ (pins : List (Addr × Obj)) (s : Shared) (σ : St) (H : Hp) (o i v : V) (ov iv u : Value) (Q : Hp → Prop), Inv X pins σ H s → RelV o ov → RelV i iv → RelV v u → t o i v H Q →
    wpAny (model X.prog X.w) X.A (setItem ov iv u) (fun _ s' => ∃ H', Inv X pins σ H' s' ∧ Q H') X.xe s
section
variable {X : Cx} {pos : Pos}
def gName (i : Nat) : TG := fun v σ H Q => Q (σ.set i (some v)) H
theorem pg_name {i : Nat} {x : Str} (hN : X.N.Nodup) (hi : X.N[i]? = some x) (hx : Loc X.env.scope x) (hf : X.fn x = true ∨ X.env.scope.names.lookup x = some .local := by first | exact .inl rfl | exact .inr rfl | assumption) : PG X (.Name x pos) (gName i) := by
  intro pins s σ H v u Q I r h
  exact wpAny_assign_Name (store_ok I hN hi hx r (fun s' I' => ⟨_, H, I', h⟩) hf)
def gNil : TGs := fun vs σ H Q => vs = [] ∧ Q σ H
def gCons (t : TG) (u : TGs) : TGs := fun vs σ H Q => ∃ v r, vs = v :: r ∧ t v σ H fun σ' H' => u r σ' H' Q
theorem pgs_nil : PGs X [] gNil := by
  intro pins s σ H vs us Q I r h
  obtain ⟨e, h⟩ := h
  subst e
  cases r
  exact assignInOrder_nil ⟨σ, H, I, h⟩
theorem pgs_cons {e : Expr} {es : List Expr} {t : TG} {u : TGs} (h1 : PG X e t) (h2 : PGs X es u)
    (hs : (assignEach (e :: es) X.env).map (·.2) = assign e X.env :: (assignEach es X.env).map (·.2) := by rfl) : PGs X (e :: es) (gCons t u) := by
  intro pins s σ H vs us Q I r h
  obtain ⟨v, vr, e1, h⟩ := h
  subst e1
  cases r with
  | cons r rr =>
    rw [hs]
    refine assignInOrder_cons (thn (h1 pins s σ H _ _ _ I r h) fun _ s1 ⟨σ1, H1, I1, q1⟩ => ?_)
    exact h2 pins s1 σ1 H1 _ _ Q I1 rr q1
def gTup (K : PySem.W.Frag) (n : Nat) (t : TGs) : TG := fun v σ H Q => ∃ a xs, v = .ref a ∧ SqT K H a xs ∧ xs.length = n ∧ t xs σ H Q
theorem pg_tup {es : List Expr} {k : Nat} {t : TGs} {n : Nat} (hc : X.calm = true) (h : PGs X es t)
    (hn : (assignEach es X.env).length = n := by rfl) (hst : (assignEach es X.env).findIdx? (·.1) = none := by rfl) : PG X (.Tuple es k pos) (gTup X.K n t) := by
  intro pins s σ H v u Q I r hw
  obtain ⟨a, xs, e1, hq, hl, hw⟩ := hw
  subst e1
  cases r
  obtain ⟨its, rv, ht, hz⟩ := I.tuple hq
  refine assign_Tuple_tuple (I.ok.hd hc) ht (by simp [hn, ← hl, rv.length]) hst fun h' hx => ?_
  have I1 : Inv X pins σ H { s with heap := h' } := I.kept (t' := s.toks) fun b o e => hx b o (Nat.ne_of_lt (Heap.lt_size e)) e
  exact h pins _ σ H xs _ Q I1 (by simpa using rv) hw
def gSub (to ti : TE) (t : TSet) : TG := fun v σ H Q => to σ H fun o H1 => ti σ H1 fun i H2 => t o i v H2 fun H3 => Q σ H3
theorem pg_sub {o i : Expr} {to ti : TE} {t : TSet} (ho : PE X o to) (hi : PE X i ti) (hs : PSet X t)
    (ha : ∀ v, assign (.Subscript o i pos) X.env v = (do
      let ov ← holding [v] (eval o X.env)
      let iv ← holding [v, ov] (eval i X.env)
      standAt pos
      holding [v, ov, iv] (setItem ov iv v)
      release [v, ov, iv] []) := by intro _; rfl) : PG X (.Subscript o i pos) (gSub to ti t) := by
  intro pins s σ H v u Q I r h
  rw [ha]
  refine wpAny_bind (wpAny_holding (thn (ho pins s σ H _ I h) fun ov s1 ⟨x, H1, I1, r1, q1⟩ => ?_))
  refine wpAny_bind (wpAny_holding (thn (hi pins s1 σ H1 _ I1 q1) fun iv s2 ⟨y, H2, I2, r2, q2⟩ => ?_))
  refine wpAny_bind (wpAny_standAt (wpAny_bind (wpAny_holding (thn (hs pins s2 σ H2 x y v ov iv u _ I2 r1 r2 r q2) fun _ s3 ⟨H3, I3, q3⟩ => ?_))))
  exact wpAny_release ⟨σ, H3, I3, q3⟩
def tAsg (te : TE) (g : TG) : TS := fun D σ H => te σ H fun x H1 => g x σ H1 D.nx
theorem ps_asg {tg e : Expr} {te : TE} {g : TG} (he : PE X e te) (hg : PG X tg g) (hs : swapsWithSole [tg] e pos.line X.env = pure false := by rfl) (hw : swappedStores [tg] e X.env = pure none := by rfl)
    (h1 : (assignEach [tg] X.env).map (·.2) = [assign tg X.env] := by rfl) : PS X (.Assign [tg] e pos) (tAsg te g) := by
  intro pins s σ H D I h
  refine wpAny_Assign_stores (thn (he pins s σ H _ I h) fun v s1 ⟨x, H1, I1, r1, q1⟩ => ?_) hs hw
  rw [h1]
  exact thn (hg pins s1 σ H1 x v _ I1 r1 q1) fun _ s2 q => q
theorem ps_set {i : Nat} {x : Str} {e : Expr} {te : TE} {pos' : Pos} (hN : X.N.Nodup) (hi : X.N[i]? = some x) (hx : Loc X.env.scope x) (he : PE X e te) (hs : swapsWith e (some (.Name x pos')) pos.line X.env = pure false := by rfl) (hf : X.fn x = true ∨ X.env.scope.names.lookup x = some .local := by first | exact .inl rfl | exact .inr rfl | assumption) :
    PS X (.Assign [.Name x pos'] e pos) (tAsg te (gName i)) := by
  intro pins s σ H D I h
  refine wpAny_Assign_Name (thn (he pins s σ H _ I h) fun v s1 ⟨y, H1, I1, r1, q1⟩ => ?_) hs
  exact store_ok I1 hN hi hx r1 (fun s2 I2 => ⟨_, H1, I2, q1⟩) hf
def tPar (i j : Nat) (ta : TA) : TS := fun D σ H => ta σ H fun vs H1 => ∃ v w, vs = [v, w] ∧ D.nx ((σ.set i (some v)).set j (some w)) H1
theorem ps_par {i j : Nat} {x y : Str} {a b : Expr} {ta : TA} {px py pt : Pos} {kt k2 pt2} (hc : X.calm = true) (hN : X.N.Nodup) (hi : X.N[i]? = some x) (hj : X.N[j]? = some y) (hij : i ≠ j)
    (hx : X.env.scope.names.lookup x = some .local) (hy : X.env.scope.names.lookup y = some .local) (ha : PA X [a, b] ta)
    (hw : swappedStores [.Tuple [.Name x px, .Name y py] kt pt] (.Tuple [a, b] k2 pt2) X.env = pure (some [x, y]))
    (hs : swapsWithSole [.Tuple [.Name x px, .Name y py] kt pt] (.Tuple [a, b] k2 pt2) pos.line X.env = pure false := by rfl) :
    PS X (.Assign [.Tuple [.Name x px, .Name y py] kt pt] (.Tuple [a, b] k2 pt2) pos) (tPar i j ta) := by
  intro pins s σ H D I h
  rw [exec_Assign_arm]
  refine wpAny_bind (wpAny_standAt ?_)
  rw [hs]
  refine wpAny_bind (wpAny_pure ?_)
  rw [if_neg (by decide)]
  refine wpAny_bind (Tuple_ (thn (ha _ pins s σ H _ I h) fun us s1 ⟨vs, H1, I1, r1, q1⟩ => ?_))
  obtain ⟨v, w, e1, q1⟩ := q1
  subst e1
  obtain ⟨u1, u2, rfl, rv, rw'⟩ : ∃ u1 u2, us = [u1, u2] ∧ RelV v u1 ∧ RelV w u2 := by
    cases r1 with
    | cons p q =>
      cases q with
      | cons p' q' =>
        cases q'
        exact ⟨_, _, rfl, p, p'⟩
  refine wpAny_newObj_type ?_ (by show 2 ≤ sizeLine; decide)
  have I2 : Inv X pins σ H1 { s1 with heap := s1.heap.push { cls := .type "tuple", data := .seq [u1, u2].toArray } } := I1.kept (t' := s1.toks) fun b o e => Heap.get?_push_of_some _ e
  rw [hw]
  refine wpAny_bind (wpAny_pure ?_)
  show wpAny (model X.prog X.w) X.A (do rule "assign.swapped-stores"; let items ← unpackItems (.ref s1.heap.objs.size) 2 none; assignInOrder [fun v => bindName X.env y v, fun v => bindName X.env x v] items.reverse; pure Flow.next) _ _ _
  refine wpAny_bind (wpAny_rule (wpAny_bind (unpackItems_tuple (items := #[u1, u2]) (I.ok.hd hc) (IsTup.new s1.heap _) fun h' hx' => ?_)))
  have I3 := I2.kept (h' := h') (t' := s1.toks) fun b o e => hx' b o (Nat.ne_of_lt (Heap.lt_size e)) e
  show wpAny _ _ (assignInOrder [fun v => bindName X.env y v, fun v => bindName X.env x v] [u2, u1] >>= fun _ => pure Flow.next) _ _ _
  refine wpAny_bind (assignInOrder_cons (wpAny_bindName (store_ok I3 hN hj (.inl hy) rw' (fun s2 I4 => ?_) (.inr hy))))
  refine assignInOrder_cons (wpAny_bindName (store_ok I4 hN hi (.inl hx) rv (fun s3 I5 => assignInOrder_nil (wpAny_pure ?_)) (.inr hx)))
  rw [List.set_comm _ _ (Ne.symm hij)] at I5
  exact ⟨_, H1, I5, q1⟩
end
section
variable {X : Cx} {pos : Pos}
def tWhile (c : TT) (tb : TS) : TS := fun D σ H => ∃ W : Nat → St → Hp → Prop, (∃ m, W m σ H) ∧ ∀ m σ H, W m σ H →
  c σ H fun b H1 => if b = true then ∃ N : St → Hp → Prop, (∀ σ' H', N σ' H' → ∃ m', m' < m ∧ W m' σ' H') ∧ tb { D with nx := N, ct := N, bk := D.nx } σ H1 else D.nx σ H1
theorem ps_while {c : Expr} {body : List Stmt} {tc : TT} {tb : TS} (hp : PassesOwn (model X.prog X.w) X.A X.env X.xe) (hc : PT X c tc) (hb : PSs X body tb) : PS X (.While c body [] pos) (tWhile tc tb) := by
  intro pins s σ H D I h
  obtain ⟨W, ⟨m0, w0⟩, turn⟩ := h
  refine wpAny_While (codeAny_whileLoop (fun n s' => ∃ σ' H', Inv X pins σ' H' s' ∧ W n σ' H') ?_ m0 ⟨σ, H, I, w0⟩)
  rintro n s1 ⟨σ1, H1, I1, w1⟩
  refine wpAny_passesOwn hp (thn (hc pins s1 σ1 H1 _ I1 (turn n σ1 H1 w1)) fun b s2 ⟨H2, I2, q2⟩ => ?_)
  cases b with
  | true =>
    obtain ⟨N, hN, q2⟩ := q2
    rw [if_pos rfl]
    refine wpAny_passesOwn hp (thn (hb pins s2 σ1 H2 _ I2 q2) fun f s3 q3 => ?_)
    cases f with
    | next =>
      obtain ⟨σ3, H3, I3, n3⟩ := q3
      obtain ⟨m', hm, w3⟩ := hN σ3 H3 n3
      exact ⟨m', hm, σ3, H3, I3, w3⟩
    | cont =>
      obtain ⟨σ3, H3, I3, n3⟩ := q3
      obtain ⟨m', hm, w3⟩ := hN σ3 H3 n3
      exact ⟨m', hm, σ3, H3, I3, w3⟩
    | brk => exact q3
    | ret v => exact q3
  | false =>
    rw [if_neg Bool.false_ne_true]
    exact wpAny_execs_nil ⟨σ1, H2, I2, q2⟩
end
structure It where
  go : Nat → Hp → Prop
  yld : Nat → Hp → V → Hp → Prop
  stop : Nat → Hp → Prop
def FpOk (X : Cx) (pins : List (Addr × Obj)) (H : Hp) (b : Addr) : Prop :=
  H b = none ∧ b ≠ X.env.locals ∧ b ∉ X.fs ∧ (b ∈ X.ex ∨ X.s₀.heap.objs.size ≤ b) ∧ (∀ x c, X.env.cells.lookup x = some c → c ≠ b) ∧ ∀ p ∈ X.pn ++ pins, p.1 ≠ b
theorem Inv.fpOk {X : Cx} {pins : List (Addr × Obj)} {σ : St} {H H' : Hp} {s : Shared} {b : Addr} (I : Inv X pins σ H s) (hb : s.heap.objs.size ≤ b) (hn : H' b = none) : FpOk X pins H' b := by
  refine ⟨hn, Nat.ne_of_gt (Nat.lt_of_lt_of_le I.lt hb), I.nofs hb, .inr (Nat.le_trans I.sz hb), fun x c e z => ?_, fun p hp z => ?_⟩
  · obtain ⟨v, q⟩ := I.cell x c e
    exact absurd (Nat.lt_of_lt_of_le q.lt (by rw [z]; exact hb)) (Nat.lt_irrefl _)
  · exact absurd (Nat.lt_of_lt_of_le (Heap.lt_size (I.pin p hp).1) (by rw [z]; exact hb)) (Nat.lt_irrefl _)
structure Turn (P : Program) (w : World) (K : PySem.W.Frag) (tg : Expr) (J : It) (fp : List Addr) (it : Addr) (tn : Nat → Heap → Prop) : Prop where
  mem : it ∈ fp
  obj : ∀ i h, tn i h → ∀ b ∈ fp, ∃ o, h.get? b = some o ∧ ∀ v, o.data ≠ .cell v
  keep : ∀ i h h', tn i h → (∀ b ∈ fp, ∀ o, h.get? b = some o → h'.get? b = some o) → tn i h'
  item : ∀ (X : Cx), X.prog = P → X.w = w → X.K = K → X.calm = true → ∀ (i : Nat) (pins : List (Addr × Obj)) (s : Shared) (σ : St) (H : Hp) (E : Value → Shared → Prop), Inv X pins σ H s → (∀ b ∈ fp, FpOk X pins H b) → tn i s.heap → J.go i H →
    wpAny (model P w) X.A (pyNext (.ref it)) (fun r s1 => ∃ u, r = some u ∧
      wpAny (model P w) X.A (letOwnedTupleGo tg (.ref it) u) (fun _ s2 => ∃ x H', Inv X pins σ H' s2 ∧ RelV x u ∧ J.yld i H x H' ∧ tn (i + 1) s2.heap ∧ ∀ b ∈ fp, H' b = none) E s1) E s
  done : ∀ (X : Cx), X.prog = P → X.w = w → X.K = K → X.calm = true → ∀ (i : Nat) (pins : List (Addr × Obj)) (s : Shared) (σ : St) (H : Hp) (E : Value → Shared → Prop), Inv X pins σ H s → (∀ b ∈ fp, FpOk X pins H b) → tn i s.heap → J.stop i H →
    wpAny (model P w) X.A (pyNext (.ref it)) (fun r s1 => r = none ∧ Inv X pins σ H s1) E s
  self : ∀ (A : Around) (i : Nat) (s : Shared) (Q : Value → Shared → Prop) (E : Value → Shared → Prop), tn i s.heap → Q (.ref it) s → wpAny (model P w) A (pyIter (.ref it)) Q E s
abbrev TI := St → Hp → (It → Hp → Prop) → Prop
def PIE (X : Cx) (pins : List (Addr × Obj)) (σ : St) (tg : Expr) (R : It → Hp → Prop) (itv : Value) (s2 : Shared) : Prop :=
  ∃ (it : Addr) (fp : List Addr) (tn : Nat → Heap → Prop) (J : It) (H' : Hp), itv = .ref it ∧ Inv X pins σ H' s2 ∧ Turn X.prog X.w X.K tg J fp it tn ∧ tn 0 s2.heap ∧ (∀ b ∈ fp, FpOk X pins H' b) ∧ R J H'
def PI (X : Cx) (tg iter : Expr) (wi : TI) : Prop :=
  ∀ (pins : List (Addr × Obj)) (s : Shared) (σ : St) (H : Hp) (R : It → Hp → Prop), Inv X pins σ H s → wi σ H R →
    wpAny (model X.prog X.w) X.A (eval iter X.env) (fun v s1 => wpAny (model X.prog X.w) X.A (pyIter v) (PIE X pins σ tg R) X.xe s1) X.xe s
theorem go_of {M : Model} {A : Around} {E : Value → Shared → Prop} {s : Shared} {tg : Expr} {it : Addr} {u : Value} {o : Obj} {n : String} {vs : Array Value} {Q : Unit → Shared → Prop} (ho : s.heap.get? it = some o) (hc : o.cls = .type n) (hd : o.data = .fields vs)
    (hn : ["enumerate", "zip", "dict_itemiterator", "dict_reverseitemiterator", "odict_iterator", "itertools.zip_longest", "itertools.pairwise"].contains n = false) (hQ : Q () s) : wpAny M A (letOwnedTupleGo tg (.ref it) u) Q E s := by
  unfold letOwnedTupleGo
  cases tg <;> first
    | exact wpAny_pure hQ
    | (cases u <;> first
        | exact wpAny_pure hQ
        | (refine wpAny_bind (wpAny_load ho ?_)
           rw [hc, hd]
           show wpAny M A (if (["enumerate", "zip", "dict_itemiterator", "dict_reverseitemiterator", "odict_iterator", "itertools.zip_longest", "itertools.pairwise"].contains n && vs[0]? == some (rawInt _)) = true then _ else _) Q E s
           rw [if_neg (by intro h; rw [hn, Bool.false_and] at h; cases h)]
           exact wpAny_pure hQ))
def Itl (K : PySem.W.Frag) (a : Addr) : It :=
  ⟨fun i H => ∃ xs x, SqL K H a xs ∧ xs[i]? = some x, fun i H x H' => H' = H ∧ ∀ xs, SqL K H a xs → xs[i]? = some x, fun i H => ∃ xs, SqL K H a xs ∧ xs.length ≤ i⟩
def Itr (lo : Int) (n : Nat) : It := ⟨fun i _ => i < n, fun i H x H' => H' = H ∧ x = .int (lo + i), fun i _ => n ≤ i⟩
theorem turn_list {P : Program} {w : World} {K : PySem.W.Frag} {tg : Expr} (a it : Addr) : Turn P w K tg (Itl K a) [it] it (fun i h => h.IsListIter it a i) where
  mem := by simp
  obj := fun i h st b hb => by
    have e : b = it := by simpa using hb
    subst e
    obtain ⟨o, e, c, d⟩ := st
    exact ⟨o, e, fun v z => by rw [d] at z; cases z⟩
  keep := fun i h h' st k => st.at fun o e => k it (by simp) o e
  item := by
    intro X hP hw hK hc i pins s σ H E I hf st hg
    subst hP hw hK
    obtain ⟨xs, x, hq, hx⟩ := hg
    obtain ⟨its, rv, p, hz⟩ := I.list hq
    obtain ⟨u, hu, ru⟩ := rv.get hx
    obtain ⟨f0, f1, f2, f3, f4, f5⟩ := hf it (by simp)
    refine wpAny_pyNext_list_item st p.isList (x := u) (by simpa using hu) fun h' st' sb => ?_
    have I1 : Inv X pins σ H { s with heap := h' } := I.turned (t' := s.toks) (fun b o hb e => (sb.2 b hb).trans e) f0 f1 f3 f4 f5
    obtain ⟨o, e, c, d⟩ := id st'
    exact ⟨u, rfl, go_of (s := { s with heap := h' }) e c d (by decide) ⟨x, H, I1, ru, ⟨rfl, fun ys hy => by rw [I.list_inj hy hq]; exact hx⟩, st', fun b hb => (hf b hb).1⟩⟩
  done := by
    intro X hP hw hK hc i pins s σ H E I hf st hg
    subst hP hw hK
    obtain ⟨xs, hq, hx⟩ := hg
    obtain ⟨its, rv, p, hz⟩ := I.list hq
    obtain ⟨f0, f1, f2, f3, f4, f5⟩ := hf it (by simp)
    have hl := rv.length
    exact wpAny_pyNext_list_end (I.ok.hd hc) st p.isList (by simp; omega) fun h' eb => ⟨rfl, I.turned (t' := s.toks) (fun b o hb e => eb b o hb e) f0 f1 f3 f4 f5⟩
  self := fun _ _ _ _ _ st h => wpAny_pyIter_listiter st h
theorem turn_range {P : Program} {w : World} {K : PySem.W.Frag} {tg : Expr} (it : Addr) (lo : Int) (n : Nat) : Turn P w K tg (Itr lo n) [it] it (fun i h => IsRangeIter h it (lo + (i : Nat) * 1) ((n : Int) - (i : Nat)) 1) where
  mem := by simp
  obj := fun i h st b hb => by
    have e : b = it := by simpa using hb
    subst e
    exact ⟨_, st, fun v z => by
      have z' : Data.fields _ = Data.cell v := z
      cases z'⟩
  keep := fun i h h' st k => k it (by simp) _ st
  item := by
    intro X hP hw hK hc i pins s σ H E I hf st hg
    subst hP hw hK
    obtain ⟨f0, f1, f2, f3, f4, f5⟩ := hf it (by simp)
    have W := Walks.range (prog := X.prog) (w := X.w) (I.ok.hd hc) it lo 1 n
    refine W.item i s _ _ hg st fun v h' tk hv st' kk => ?_
    obtain ⟨t, rfl⟩ := hv
    have I1 : Inv X pins σ H { s with heap := h', toks := tk } := I.turned (fun b o hb e => kk b o (by simpa using hb) e) f0 f1 f3 f4 f5
    refine ⟨_, rfl, go_of (s := { s with heap := h', toks := tk }) (n := "range_iterator") st' rfl rfl (by decide) ⟨.int (lo + i), H, I1, ⟨t, ?_⟩, ⟨rfl, rfl⟩, st', fun b hb => (hf b hb).1⟩⟩
    rw [Int.mul_one]
  done := by
    intro X hP hw hK hc i pins s σ H E I hf st hg
    subst hP hw hK
    obtain ⟨f0, f1, f2, f3, f4, f5⟩ := hf it (by simp)
    exact wpAny_pyNext_range_end (I.ok.hd hc) st (by have : n ≤ i := hg; omega) fun h' eb => ⟨rfl, I.turned (t' := s.toks) (fun b o hb e => eb b o hb e) f0 f1 f3 f4 f5⟩
  self := fun _ _ _ _ _ st h => wpAny_pyIter_rangeiter st h
end L2
namespace L2
open PySem PySem.Spec PyProof.Rows
section
variable {X : Cx} {tg : Expr}
def iList (K : PySem.W.Frag) (tl : TE) : TI := fun σ H R => tl σ H fun x H1 => ∃ a, x = .ref a ∧ (∃ xs, SqL K H1 a xs) ∧ R (Itl K a) H1
theorem pi_list {l : Expr} {tl : TE} (hl : PE X l tl) : PI X tg l (iList X.K tl) := by
  intro pins s σ H R I h
  refine thn (hl pins s σ H _ I h) fun v s1 ⟨x, H1, I1, r1, q1⟩ => ?_
  obtain ⟨a, e, ⟨xs, hq⟩, q⟩ := q1
  subst e
  cases r1
  obtain ⟨its, rv, p, hz⟩ := I1.list hq
  refine wpAny_pyIter_list p.isList ?_
  refine ⟨s1.heap.objs.size, [s1.heap.objs.size], _, _, H1, rfl, I1.kept (t' := s1.toks) fun b o e => Heap.get?_push_of_some _ e, turn_list a _, ⟨_, Heap.get?_push_size _ rfl, rfl, rfl⟩, fun b hb => ?_, q⟩
  have e : b = s1.heap.objs.size := by simpa using hb
  subst e
  exact I1.fpOk (Nat.le_refl _) (I1.hok.fresh (Nat.le_refl _))
theorem range_it {pins : List (Addr × Obj)} {σ : St} {H : Hp} {s : Shared} {R : It → Hp → Prop} {E : Value → Shared → Prop} {lo hi : Int} {t u v : Tok} {tk : Nat} (I : Inv X pins σ H s) (h1 : -(2 ^ 62) ≤ lo) (h2 : lo < 2 ^ 62) (h3 : -(2 ^ 62) ≤ hi) (h4 : hi < 2 ^ 62)
    (q : R (Itr lo (hi - lo).toNat) H) : wpAny (model X.prog X.w) X.A (pyIter (.ref s.heap.objs.size)) (PIE X pins σ tg R) E { s with heap := s.heap.push { cls := .type "range", data := .fields #[.int lo t, .int hi u, .int 1 v] }, toks := tk } := by
  refine wpAny_pyIter_range (IsRange.new ..) (small_one h1 h2 h3 h4) ?_
  have I1 : Inv X pins σ H { s with heap := s.heap.push { cls := .type "range", data := .fields #[.int lo t, .int hi u, .int 1 v] }, toks := tk } := I.kept fun b o e => Heap.get?_push_of_some _ e
  refine ⟨(s.heap.push { cls := .type "range", data := .fields #[.int lo t, .int hi u, .int 1 v] }).objs.size, [(s.heap.push { cls := .type "range", data := .fields #[.int lo t, .int hi u, .int 1 v] }).objs.size], _, _, H, rfl,
    I1.kept (t' := tk) fun b o e => Heap.get?_push_of_some _ e, turn_range _ lo (hi - lo).toNat, ?_, fun b hb => ?_, q⟩
  · have e1 : lo + ((0 : Nat) : Int) * 1 = lo := by simp
    have e2 : (((hi - lo).toNat : Nat) : Int) - ((0 : Nat) : Int) = Builtin.Range.rangeSize lo hi 1 := by rw [rangeSize_one]; split <;> omega
    show IsRangeIter _ _ (lo + ((0 : Nat) : Int) * 1) ((((hi - lo).toNat : Nat) : Int) - ((0 : Nat) : Int)) 1
    rw [e1, e2]
    exact Heap.get?_push_size _ rfl
  · have e : b = (s.heap.push { cls := .type "range", data := .fields #[.int lo t, .int hi u, .int 1 v] }).objs.size := by simpa using hb
    subst e
    exact I1.fpOk (Nat.le_refl _) (I1.hok.fresh (Nat.le_refl _))
def iRng1 (ta : TA) : TI := fun σ H R => ta σ H fun vs H1 => ∃ j : Int, vs = [.int j] ∧ -(2 ^ 62) ≤ j ∧ j < 2 ^ 62 ∧ R (Itr 0 j.toNat) H1
def iRng2 (ta : TA) : TI := fun σ H R => ta σ H fun vs H1 => ∃ i j : Int, vs = [.int i, .int j] ∧ (-(2 ^ 62) ≤ i ∧ i < 2 ^ 62 ∧ -(2 ^ 62) ≤ j ∧ j < 2 ^ 62) ∧ R (Itr i (j - i).toNat) H1
theorem pi_range1 {a : Expr} {ta : TA} {p pos : Pos} (hg : Gl X "range") (hm : X.mg "range" = none) (ha : PA X [a] ta) (hs : starEach [a] X.env = [(false, eval a X.env)] := by rfl) : PI X tg (.Call (.Name "range" p) [a] [] pos) (iRng1 ta) := by
  intro pins s σ H R I h
  refine Call_ (ld_blt I hg hm boot_range (PyProof.Rows.callWith_type1 (thn (ha pos pins s σ H _ I h) fun us s1 ⟨vs, H1, I1, r1, q1⟩ => ?_) hs rfl))
  obtain ⟨j, e, q1, q2, q⟩ := q1
  subst e
  cases r1 with
  | cons r rr =>
    cases rr
    obtain ⟨t, rfl⟩ := r
    exact call_range_1 (range_it I1 (by omega) (by omega) q1 q2 (by simpa using q))
theorem pi_range2 {a b : Expr} {ta : TA} {p pos : Pos} (hg : Gl X "range") (hm : X.mg "range" = none) (ha : PA X [a, b] ta) (hs : starEach [a, b] X.env = [(false, eval a X.env), (false, eval b X.env)] := by rfl) (hs2 : starEach [b] X.env = [(false, eval b X.env)] := by rfl) :
    PI X tg (.Call (.Name "range" p) [a, b] [] pos) (iRng2 ta) := by
  intro pins s σ H R I h
  refine Call_ (ld_blt I hg hm boot_range (PyProof.Rows.callWith_type1 (thn (ha pos pins s σ H _ I h) fun us s1 ⟨vs, H1, I1, r1, q1⟩ => ?_) (by rw [hs, hs2]) (by rw [hs2]; rfl)))
  obtain ⟨i, j, e, ⟨q1, q2, q3, q4⟩, q⟩ := q1
  subst e
  cases r1 with
  | cons r rr =>
    cases rr with
    | cons r' rr =>
      cases rr
      obtain ⟨t, rfl⟩ := r
      obtain ⟨t', rfl⟩ := r'
      exact call_range_2 (range_it I1 q1 q2 q3 q4 q)
def tFor (wi : TI) (g : TG) (tb : TS) : TS := fun D σ H => wi σ H fun J H1 => ∃ W : Nat → Nat → St → Hp → Prop, (∃ m, W 0 m σ H1) ∧ ∀ i m σ H, W i m σ H →
  (J.stop i H ∧ D.nx σ H) ∨ (J.go i H ∧ ∃ N : St → Hp → Prop, (∀ σ' H', N σ' H' → ∃ m', m' < m ∧ W (i + 1) m' σ' H') ∧ ∀ x H', J.yld i H x H' → g x σ H' fun σ2 H2 => tb { D with nx := N, ct := N, bk := D.nx } σ2 H2)
def pinsAt (fp : List Addr) (h : Heap) : List (Addr × Obj) := fp.filterMap fun b => (h.get? b).map fun o => (b, o)
theorem mem_pinsAt {fp : List Addr} {h : Heap} {b : Addr} {o : Obj} (hb : b ∈ fp) (e : h.get? b = some o) : (b, o) ∈ pinsAt fp h := List.mem_filterMap.mpr ⟨b, hb, by rw [e]; rfl⟩
theorem of_pinsAt {fp : List Addr} {h : Heap} {p : Addr × Obj} (hp : p ∈ pinsAt fp h) : p.1 ∈ fp ∧ h.get? p.1 = some p.2 := by
  obtain ⟨b, hb, e⟩ := List.mem_filterMap.mp hp
  cases q : h.get? b with
  | none => rw [q] at e; cases e
  | some o =>
    rw [q] at e
    have e' : (b, o) = p := Option.some.inj e
    subst e'
    exact ⟨hb, q⟩
theorem Inv.pinned {pins : List (Addr × Obj)} {σ : St} {H : Hp} {s : Shared} {fp : List Addr} (I : Inv X pins σ H s) (hf : ∀ b ∈ fp, FpOk X pins H b) (ho : ∀ b ∈ fp, ∃ o, s.heap.get? b = some o ∧ ∀ v, o.data ≠ .cell v) : Inv X (pins ++ pinsAt fp s.heap) σ H s :=
  I.pins_of fun p hp => (List.mem_append.mp hp).elim (fun z => I.pin p (List.mem_append_right _ z)) fun z => by
    obtain ⟨hb, e⟩ := of_pinsAt z
    obtain ⟨f0, f1, f2, _⟩ := hf p.1 hb
    obtain ⟨o, e', d⟩ := ho p.1 hb
    rw [e] at e'; cases e'
    exact ⟨e, f0, f1, f2, d⟩
theorem Inv.unpinned {pins pl : List (Addr × Obj)} {σ : St} {H : Hp} {s : Shared} (I : Inv X (pins ++ pl) σ H s) : Inv X pins σ H s := I.pins_of fun p hp => I.pin p (List.mem_append_right _ (List.mem_append_left _ hp))
theorem ps_for {iter : Expr} {body : List Stmt} {wi : TI} {g : TG} {tb : TS} {pos : Pos} (hp : PassesOwn (model X.prog X.w) X.A X.env X.xe) (hc : X.calm = true) (hi : PI X tg iter wi) (hg : PG X tg g) (hb : PSs X body tb)
    (hs : ∀ x, foldedSetIterable iter X.env x = pure x := by intro _; rfl) : PS X (.For tg iter body [] pos) (tFor wi g tb) := by
  intro pins s σ H D I h
  refine wpAny_For (thn (hi pins s σ H _ I h) fun v s1 h1 => thn h1 fun itv s2 h2 => ?_) hs
  obtain ⟨it, fp, tn, J, H2, e, I2, T, st2, f2, W, ⟨m0, w0⟩, turn⟩ := h2
  subst e
  have stat : ∀ {H' : Hp}, (∀ b ∈ fp, H' b = none) → ∀ b ∈ fp, FpOk X pins H' b := fun hn b hb => ⟨hn b hb, (f2 b hb).2⟩
  refine codeAny_forLoop_any (fun n s' => ∃ i σ' H', Inv X pins σ' H' s' ∧ tn i s'.heap ∧ (∀ b ∈ fp, H' b = none) ∧ W i n σ' H') ?_ m0 ⟨0, σ, H2, I2, st2, fun b hb => (f2 b hb).1, w0⟩
  rintro n s3 ⟨i, σ3, H3, I3, st3, fr3, w3⟩
  rcases turn i n σ3 H3 w3 with ⟨stop, qn⟩ | ⟨go, N, hN, step⟩
  · refine wpAny_passesOwn hp (thn (T.done X rfl rfl rfl hc i pins s3 σ3 H3 X.xe I3 (stat fr3) st3 stop) fun r s4 ⟨hr, I4⟩ => ?_)
    subst hr
    exact wpAny_execs_nil ⟨σ3, H3, I4, qn⟩
  · refine wpAny_passesOwn hp (thn (T.item X rfl rfl rfl hc i pins s3 σ3 H3 X.xe I3 (stat fr3) st3 go) fun r s4 ⟨u, hr, h4⟩ => ?_)
    subst hr
    refine wpAny_passesOwn hp (thn h4 fun _ s5 ⟨x, H5, I5, r5, y5, st5, fr5⟩ => ?_)
    have I5' := I5.pinned (stat fr5) (T.obj _ _ st5)
    refine wpAny_passesOwn hp (thn (hg _ s5 σ3 H5 x u _ I5' r5 (step x H5 y5)) fun _ s6 ⟨σ6, H6, I6, q6⟩ => ?_)
    refine wpAny_passesOwn hp (thn (hb _ s6 σ6 H6 _ I6 q6) fun f s7 q7 => ?_)
    have again : ∀ {σ7 : St} {H7 : Hp}, Inv X (pins ++ pinsAt fp s5.heap) σ7 H7 s7 → N σ7 H7 → ∃ m, m < n ∧ ∃ i σ' H', Inv X pins σ' H' s7 ∧ tn i s7.heap ∧ (∀ b ∈ fp, H' b = none) ∧ W i m σ' H' := fun {σ7 H7} I7 n7 => by
      obtain ⟨m', hm, w7⟩ := hN σ7 H7 n7
      refine ⟨m', hm, i + 1, σ7, H7, I7.unpinned, T.keep _ _ _ st5 fun b hb o e => (I7.pin (b, o) (List.mem_append_right _ (List.mem_append_right _ (mem_pinsAt hb e)))).1, fun b hb => ?_, w7⟩
      obtain ⟨o, e, d⟩ := T.obj _ _ st5 b hb
      exact (I7.pin (b, o) (List.mem_append_right _ (List.mem_append_right _ (mem_pinsAt hb e)))).2.1
    cases f with
    | next => obtain ⟨σ7, H7, I7, n7⟩ := q7; exact again I7 n7
    | cont => obtain ⟨σ7, H7, I7, n7⟩ := q7; exact again I7 n7
    | brk => obtain ⟨σ7, H7, I7, q7⟩ := q7; exact ⟨σ7, H7, I7.unpinned, q7⟩
    | ret v => obtain ⟨x7, σ7, H7, I7, r7, q7⟩ := q7; exact ⟨x7, σ7, H7, I7.unpinned, r7, q7⟩
end
theorem for_list {K : PySem.W.Frag} {a : Addr} {xs : List V} {g : TG} {tb : TS} {D : Ends} {σ : St} {H : Hp} (Pv : Nat → St → Hp → Prop) (h0 : Pv 0 σ H) (hl : ∀ i σ H, i ≤ xs.length → Pv i σ H → SqL K H a xs)
    (hs : ∀ i x σ H, xs[i]? = some x → Pv i σ H → g x σ H fun σ2 H2 => tb { D with nx := Pv (i + 1), ct := Pv (i + 1), bk := D.nx } σ2 H2) (hd : ∀ σ H, Pv xs.length σ H → D.nx σ H) :
    ∃ W : Nat → Nat → St → Hp → Prop, (∃ m, W 0 m σ H) ∧ ∀ i m σ H, W i m σ H →
      ((Itl K a).stop i H ∧ D.nx σ H) ∨ ((Itl K a).go i H ∧ ∃ N : St → Hp → Prop, (∀ σ' H', N σ' H' → ∃ m', m' < m ∧ W (i + 1) m' σ' H') ∧ ∀ x H', (Itl K a).yld i H x H' → g x σ H' fun σ2 H2 => tb { D with nx := N, ct := N, bk := D.nx } σ2 H2) := by
  refine ⟨fun i m σ H => m = xs.length - i ∧ i ≤ xs.length ∧ Pv i σ H, ⟨xs.length, by simp, Nat.zero_le _, h0⟩, ?_⟩
  rintro i m σ H ⟨rfl, hi, p⟩
  have q := hl i σ H hi p
  by_cases hlt : i < xs.length
  · refine .inr ⟨⟨xs, xs[i], q, by simp [hlt]⟩, Pv (i + 1), fun σ' H' p' => ⟨xs.length - (i + 1), by omega, rfl, hlt, p'⟩, fun x H' y => ?_⟩
    obtain ⟨e, y⟩ := y
    subst e
    exact hs i x σ _ (y xs q) p
  · have e : i = xs.length := by omega
    subst e
    exact .inl ⟨⟨xs, q, Nat.le_refl _⟩, hd σ H p⟩
theorem for_range {lo : Int} {n : Nat} {g : TG} {tb : TS} {D : Ends} {σ : St} {H : Hp} (Pv : Nat → St → Hp → Prop) (h0 : Pv 0 σ H)
    (hs : ∀ i σ H, i < n → Pv i σ H → g (.int (lo + i)) σ H fun σ2 H2 => tb { D with nx := Pv (i + 1), ct := Pv (i + 1), bk := D.nx } σ2 H2) (hd : ∀ σ H, Pv n σ H → D.nx σ H) :
    ∃ W : Nat → Nat → St → Hp → Prop, (∃ m, W 0 m σ H) ∧ ∀ i m σ H, W i m σ H →
      ((Itr lo n).stop i H ∧ D.nx σ H) ∨ ((Itr lo n).go i H ∧ ∃ N : St → Hp → Prop, (∀ σ' H', N σ' H' → ∃ m', m' < m ∧ W (i + 1) m' σ' H') ∧ ∀ x H', (Itr lo n).yld i H x H' → g x σ H' fun σ2 H2 => tb { D with nx := N, ct := N, bk := D.nx } σ2 H2) := by
  refine ⟨fun i m σ H => m = n - i ∧ i ≤ n ∧ Pv i σ H, ⟨n, by simp, Nat.zero_le _, h0⟩, ?_⟩
  rintro i m σ H ⟨rfl, hi, p⟩
  by_cases hlt : i < n
  · refine .inr ⟨hlt, Pv (i + 1), fun σ' H' p' => ⟨n - (i + 1), by omega, rfl, hlt, p'⟩, fun x H' y => ?_⟩
    obtain ⟨e, y⟩ := y
    subst e y
    exact hs i σ _ hlt p
  · have e : i = n := by omega
    subst e
    exact .inl ⟨Nat.le_refl _, hd σ H p⟩
end L2
namespace L2
open PySem PySem.Spec PyProof.Rows
abbrev R2 := V → V → Hp → VK → Prop
def OpR (X : Cx) (f : Value → Value → Sem Value) (r : R2) : Prop :=
  ∀ (pins : List (Addr × Obj)) (s : Shared) (σ : St) (H : Hp) (x y : V) (v u : Value) (Q : VK), Inv X pins σ H s → RelV x v → RelV y u → r x y H Q →
    wpAny (model X.prog X.w) X.A (f v u) (EP X pins σ Q) X.xe s
def UnR (X : Cx) (f : Value → Sem Value) (r : V → Hp → VK → Prop) : Prop :=
  ∀ (pins : List (Addr × Obj)) (s : Shared) (σ : St) (H : Hp) (x : V) (v : Value) (Q : VK), Inv X pins σ H s → RelV x v → r x H Q →
    wpAny (model X.prog X.w) X.A (f v) (EP X pins σ Q) X.xe s
def CallR (X : Cx) (f : Value) (r : List V → Hp → VK → Prop) : Prop :=
  ∀ (pins : List (Addr × Obj)) (s : Shared) (σ : St) (H : Hp) (xs : List V) (us : List Value) (Q : VK), Inv X pins σ H s → Vals xs us → r xs H Q →
    wpAny (model X.prog X.w) X.A (call f us) (EP X pins σ Q) X.xe s
def tOp (r : R2) (ta tb : TE) : TE := fun σ H Q => ta σ H fun x H1 => tb σ H1 fun y H2 => r x y H2 Q
def tUn (r : V → Hp → VK → Prop) (ta : TE) : TE := fun σ H Q => ta σ H fun x H1 => r x H1 Q
def rI (C : Int → Int → Prop) (g : Int → Int → V) : R2 := fun x y H Q => ∃ i j, x = .int i ∧ y = .int j ∧ C i j ∧ Q (g i j) H
def rI0 (g : Int → Int → V) : R2 := fun x y H Q => ∃ i j, x = .int i ∧ y = .int j ∧ Q (g i j) H
def rU (g : Int → V) : V → Hp → VK → Prop := fun x H Q => ∃ i, x = .int i ∧ Q (g i) H
section
variable {X : Cx} {a b c : Expr} {ta tb tc : TE} {pos : Pos}
theorem binT (ha : PE X a ta) (hb : PE X b tb) {pins : List (Addr × Obj)} {s : Shared} {σ : St} {H : Hp} {R : V → V → Hp → Prop} (I : Inv X pins σ H s)
    (h : ta σ H fun x H1 => tb σ H1 fun y H2 => R x y H2) {Q : Value → Shared → Prop} {f : Value → Value → Sem Value}
    (hf : ∀ v u s2 x y H2, Inv X pins σ H2 s2 → RelV x v → RelV y u → R x y H2 → wpAny (model X.prog X.w) X.A (f v u) Q X.xe s2) :
    wpAny (model X.prog X.w) X.A (eval a X.env) (fun v s₁ => wpAny (model X.prog X.w) X.A (eval b X.env) (fun u s₂ => wpAny (model X.prog X.w) X.A (f v u) Q X.xe s₂) X.xe s₁) X.xe s := by
  refine thn (ha pins s σ H _ I h) fun v s1 ⟨x, H1, I1, r1, q1⟩ => ?_
  refine thn (hb pins s1 σ H1 _ I1 q1) fun u s2 ⟨y, H2, I2, r2, q2⟩ => ?_
  exact hf v u s2 x y H2 I2 r1 r2 q2
theorem pe_op {op : Operator} {r : R2} (ho : OpR X (binaryOp op) r) (ha : PE X a ta) (hb : PE X b tb) : PE X (.BinOp a op b pos) (tOp r ta tb) := by
  intro pins s σ H Q I h
  exact wpAny_BinOp (binT ha hb I h fun v u s2 x y H2 I2 rx ry q => ho pins s2 σ H2 x y v u Q I2 rx ry q)
theorem pe_un {op : UnaryOp} {r : V → Hp → VK → Prop} (ho : UnR X (unaryOp op) r) (ha : PE X a ta) : PE X (.UnaryOp op a pos) (tUn r ta) := by
  intro pins s σ H Q I h
  exact UnaryOp_ (thn (ha pins s σ H _ I h) fun v s1 ⟨x, H1, I1, r1, q1⟩ => ho pins s1 σ H1 x v Q I1 r1 q1)
theorem opI {f : Value → Value → Sem Value} {C : Int → Int → Prop} {g : Int → Int → Int}
    (rule : ∀ (i j : Int) (t u : Tok) (s : Shared) (Q : Value → Shared → Prop) (E : Value → Shared → Prop), C i j → Q (.int (g i j) s.toks) { s with toks := s.toks + 1 } → wpAny (model X.prog X.w) X.A (f (.int i t) (.int j u)) Q E s) :
    OpR X f (rI C fun i j => .int (g i j)) := by
  intro pins s σ H x y v u Q I rx ry h
  obtain ⟨i, j, rfl, rfl, hc, q⟩ := h
  obtain ⟨t, rfl⟩ := rx
  obtain ⟨t', rfl⟩ := ry
  exact rule i j t t' s _ _ hc ⟨.int (g i j), H, I.tok _, ⟨_, rfl⟩, q⟩
theorem opI0 {f : Value → Value → Sem Value} {g : Int → Int → Int}
    (rule : ∀ (i j : Int) (t u : Tok) (s : Shared) (Q : Value → Shared → Prop) (E : Value → Shared → Prop), Q (.int (g i j) s.toks) { s with toks := s.toks + 1 } → wpAny (model X.prog X.w) X.A (f (.int i t) (.int j u)) Q E s) :
    OpR X f (rI0 fun i j => .int (g i j)) := by
  intro pins s σ H x y v u Q I rx ry h
  obtain ⟨i, j, rfl, rfl, q⟩ := h
  obtain ⟨t, rfl⟩ := rx
  obtain ⟨t', rfl⟩ := ry
  exact rule i j t t' s _ _ ⟨.int (g i j), H, I.tok _, ⟨_, rfl⟩, q⟩
theorem opB0 {f : Value → Value → Sem Value} {g : Int → Int → Bool}
    (rule : ∀ (i j : Int) (t u : Tok) (s : Shared) (Q : Value → Shared → Prop) (E : Value → Shared → Prop), Q (.bool (g i j)) s → wpAny (model X.prog X.w) X.A (f (.int i t) (.int j u)) Q E s) :
    OpR X f (rI0 fun i j => .bl (g i j)) := by
  intro pins s σ H x y v u Q I rx ry h
  obtain ⟨i, j, rfl, rfl, q⟩ := h
  obtain ⟨t, rfl⟩ := rx
  obtain ⟨t', rfl⟩ := ry
  exact rule i j t t' s _ _ ⟨.bl (g i j), H, I, rfl, q⟩
def CDiv (i j : Int) : Prop := 0 < j ∧ j < 1073741824
def CMul (i j : Int) : Prop := (-(2 ^ 64) < i ∧ i < 2 ^ 64) ∨ (-(2 ^ 64) < j ∧ j < 2 ^ 64)
theorem CMul.ok {i j : Int} (h : CMul i j) : IntMulOk i j := by
  rcases h with ⟨h1, h2⟩ | ⟨h1, h2⟩
  · exact .of_left (intBits_le_64 h1 h2)
  · exact .of_right (intBits_le_64 h1 h2)
theorem op_add : OpR X (binaryOp .Add) (rI0 fun i j => .int (i + j)) := opI0 fun _ _ _ _ _ _ _ q => add_int q
theorem op_sub : OpR X (binaryOp .Sub) (rI0 fun i j => .int (i - j)) := opI0 fun _ _ _ _ _ _ _ q => sub_int q
theorem op_mul : OpR X (binaryOp .Mult) (rI CMul fun i j => .int (i * j)) := opI fun _ _ _ _ _ _ _ hc q => mul_int q hc.ok
theorem op_fdiv : OpR X (binaryOp .FloorDiv) (rI CDiv fun i j => .int (i / j)) := opI fun i j _ _ _ _ _ hc q => by
  have h1 : (0 : Int) < j := hc.1
  have h2 : j < 1073741824 := hc.2
  exact floordiv_int (by omega) (by rw [Int.fdiv_eq_ediv_of_nonneg i (by omega)]; exact q) (.inl (PyProof.noPylong_small (by omega)))
theorem op_mod : OpR X (binaryOp .Mod) (rI (fun _ j => 0 < j) fun i j => .int (i % j)) := opI fun i j _ _ _ _ _ hc q => by
  have h1 : (0 : Int) < j := hc
  exact mod_int' (by omega) (by rw [Int.fmod_eq_emod_of_nonneg i (by omega)]; exact q)
theorem unI {f : Value → Sem Value} {g : Int → Int}
    (rule : ∀ (i : Int) (t : Tok) (s : Shared) (Q : Value → Shared → Prop) (E : Value → Shared → Prop), Q (.int (g i) s.toks) { s with toks := s.toks + 1 } → wpAny (model X.prog X.w) X.A (f (.int i t)) Q E s) :
    UnR X f (rU fun i => .int (g i)) := by
  intro pins s σ H x v Q I rx h
  obtain ⟨i, rfl, q⟩ := h
  obtain ⟨t, rfl⟩ := rx
  exact rule i t s _ _ ⟨.int (g i), H, I.tok _, ⟨_, rfl⟩, q⟩
theorem un_neg : UnR X (unaryOp .USub) (rU fun i => .int (-i)) := unI fun _ _ _ _ _ q => neg_int q
end
def scal : V → V → Bool
  | .non, .non => true | .non, .int _ => true | .int _, .non => true | .non, .bl _ => true | .bl _, .non => true | .non, .str _ => true | .str _, .non => true
  | .int _, .int _ => true | .bl _, .bl _ => true | .str _, .str _ => true | .byt _, .byt _ => true
  | .int _, .str _ => true | .str _, .int _ => true | .bl _, .str _ => true | .str _, .bl _ => true
  | _, _ => false
def rEq : R2 := fun x y H Q => scal x y = true ∧ Q (.bl (decide (x = y))) H
def rNe : R2 := fun x y H Q => scal x y = true ∧ Q (.bl (!decide (x = y))) H
theorem dec_int {i j : Int} : decide (V.int i = V.int j) = (i == j) := by
  rw [Bool.eq_iff_iff]
  simp
theorem dec_bl {i j : Bool} : decide (V.bl i = V.bl j) = (i == j) := by
  rw [Bool.eq_iff_iff]
  simp
theorem dec_str {i j : Str} : decide (V.str i = V.str j) = (i == j) := by
  rw [Bool.eq_iff_iff]
  simp
theorem dec_byt {i j : Array UInt8} : decide (V.byt i = V.byt j) = (i.toList == j.toList) := by
  rw [Bool.eq_iff_iff]
  cases i
  cases j
  simp
section
variable {X : Cx} {a b c : Expr} {ta tb tc : TE} {pos : Pos}
theorem fin_bl {pins : List (Addr × Obj)} {σ : St} {H : Hp} {s : Shared} {Q : VK} {k k' : Bool} (I : Inv X pins σ H s) (q : Q (.bl k) H) (e : k = k') : EP X pins σ Q (.bool k') s := by
  subst e
  exact ⟨.bl k, H, I, rfl, q⟩
theorem op_eq : OpR X (compareOp .Eq) rEq := by
  intro pins s σ H x y v u Q I rx ry h
  obtain ⟨hs, q⟩ := h
  cases x with
  | non =>
    cases rx
    cases y with
    | non => cases ry; exact PySem.EqNone.eq_none_none (fin_bl I q (by simp))
    | bl j => cases ry; exact PySem.EqNone.eq_none_bool (fin_bl I q (by simp))
    | int j => obtain ⟨t', rfl⟩ := ry; exact PySem.EqNone.eq_none_int (fin_bl I q (by simp))
    | str j => obtain ⟨t', rfl⟩ := ry; exact PySem.EqNone.eq_none_str (fin_bl I q (by simp))
    | _ => exact absurd (show false = true from hs) Bool.false_ne_true
  | bl i =>
    cases rx
    cases y with
    | non => cases ry; exact PySem.EqNone.eq_bool_none (fin_bl I q (by simp))
    | bl j => cases ry; exact eq_bool (fin_bl I q dec_bl)
    | str j => obtain ⟨t', rfl⟩ := ry; exact PySem.EqMixed.eq_bool_str (fin_bl I q (by simp))
    | _ => exact absurd (show false = true from hs) Bool.false_ne_true
  | int i =>
    obtain ⟨t, rfl⟩ := rx
    cases y with
    | non => cases ry; exact PySem.EqNone.eq_int_none (fin_bl I q (by simp))
    | int j => obtain ⟨t', rfl⟩ := ry; exact eq_int (fin_bl I q dec_int)
    | str j => obtain ⟨t', rfl⟩ := ry; exact PySem.EqMixed.eq_int_str (fin_bl I q (by simp))
    | _ => exact absurd (show false = true from hs) Bool.false_ne_true
  | str i =>
    obtain ⟨t, rfl⟩ := rx
    cases y with
    | non => cases ry; exact PySem.EqNone.eq_str_none (fin_bl I q (by simp))
    | bl j => cases ry; exact PySem.EqMixed.eq_str_bool (fin_bl I q (by simp))
    | int j => obtain ⟨t', rfl⟩ := ry; exact PySem.EqMixed.eq_str_int (fin_bl I q (by simp))
    | str j => obtain ⟨t', rfl⟩ := ry; exact eq_str (fin_bl I q dec_str)
    | _ => exact absurd (show false = true from hs) Bool.false_ne_true
  | byt i =>
    obtain ⟨t, rfl⟩ := rx
    cases y with
    | byt j => obtain ⟨t', rfl⟩ := ry; exact PySem.W.eq_bytes (fin_bl I q dec_byt)
    | _ => exact absurd (show false = true from hs) Bool.false_ne_true
  | _ => cases y <;> exact absurd (show false = true from hs) Bool.false_ne_true
theorem op_ne : OpR X (compareOp .NotEq) rNe := by
  intro pins s σ H x y v u Q I rx ry h
  obtain ⟨hs, q⟩ := h
  cases x with
  | non =>
    cases rx
    cases y with
    | non => cases ry; exact PySem.EqNone.ne_none_none (fin_bl I q (by simp))
    | bl j => cases ry; exact PySem.EqNone.ne_none_bool (fin_bl I q (by simp))
    | int j => obtain ⟨t', rfl⟩ := ry; exact PySem.EqNone.ne_none_int (fin_bl I q (by simp))
    | str j => obtain ⟨t', rfl⟩ := ry; exact PySem.EqNone.ne_none_str (fin_bl I q (by simp))
    | _ => exact absurd (show false = true from hs) Bool.false_ne_true
  | bl i =>
    cases rx
    cases y with
    | non => cases ry; exact PySem.EqNone.ne_bool_none (fin_bl I q (by simp))
    | bl j => cases ry; exact ne_bool (fin_bl I q (congrArg not dec_bl))
    | str j => obtain ⟨t', rfl⟩ := ry; exact PySem.EqMixed.ne_bool_str (fin_bl I q (by simp))
    | _ => exact absurd (show false = true from hs) Bool.false_ne_true
  | int i =>
    obtain ⟨t, rfl⟩ := rx
    cases y with
    | non => cases ry; exact PySem.EqNone.ne_int_none (fin_bl I q (by simp))
    | int j => obtain ⟨t', rfl⟩ := ry; exact ne_int (fin_bl I q (congrArg not dec_int))
    | str j => obtain ⟨t', rfl⟩ := ry; exact PySem.EqMixed.ne_int_str (fin_bl I q (by simp))
    | _ => exact absurd (show false = true from hs) Bool.false_ne_true
  | str i =>
    obtain ⟨t, rfl⟩ := rx
    cases y with
    | non => cases ry; exact PySem.EqNone.ne_str_none (fin_bl I q (by simp))
    | bl j => cases ry; exact PySem.EqMixed.ne_str_bool (fin_bl I q (by simp))
    | int j => obtain ⟨t', rfl⟩ := ry; exact PySem.EqMixed.ne_str_int (fin_bl I q (by simp))
    | str j => obtain ⟨t', rfl⟩ := ry; exact ne_str (fin_bl I q (congrArg not dec_str))
    | _ => exact absurd (show false = true from hs) Bool.false_ne_true
  | byt i =>
    obtain ⟨t, rfl⟩ := rx
    cases y with
    | byt j => obtain ⟨t', rfl⟩ := ry; exact PySem.W.ne_bytes (fin_bl I q (congrArg not dec_byt))
    | _ => exact absurd (show false = true from hs) Bool.false_ne_true
  | _ => cases y <;> exact absurd (show false = true from hs) Bool.false_ne_true
theorem op_lt : OpR X (compareOp .Lt) (rI0 fun i j => .bl (decide (i < j))) := opB0 fun _ _ _ _ _ _ _ q => lt_int q
theorem op_le : OpR X (compareOp .LtE) (rI0 fun i j => .bl (decide (i ≤ j))) := opB0 fun _ _ _ _ _ _ _ q => le_int q
theorem op_gt : OpR X (compareOp .Gt) (rI0 fun i j => .bl (decide (j < i))) := opB0 fun _ _ _ _ _ _ _ q => gt_int q
theorem op_in_str : OpR X (compareOp .In) (fun x y H Q => ∃ i j, x = .str i ∧ y = .str j ∧ Q (.bl (!(Builtin.Str.occurrences j i 0 j.length 1).isEmpty)) H) := by
  intro pins s σ H x y v u Q I rx ry h
  obtain ⟨i, j, rfl, rfl, q⟩ := h
  obtain ⟨t, rfl⟩ := rx
  obtain ⟨t', rfl⟩ := ry
  exact in_str (fin_bl I q rfl)
theorem op_isN : OpR X (compareOp .Is) (fun x y H Q => y = .non ∧ Q (.bl (decide (x = .non))) H) := by
  intro pins s σ H x y v u Q I rx ry h
  obtain ⟨rfl, q⟩ := h
  cases ry
  refine is_none_gen (fin_bl I q ?_)
  cases x <;> first
    | (cases rx; rfl)
    | (obtain ⟨t, rfl⟩ := rx; rfl)
theorem op_notin_str : OpR X (compareOp .NotIn) (fun x y H Q => ∃ i j, x = .str i ∧ y = .str j ∧ Q (.bl (!(!(Builtin.Str.occurrences j i 0 j.length 1).isEmpty))) H) := by
  intro pins s σ H x y v u Q I rx ry h
  obtain ⟨i, j, rfl, rfl, q⟩ := h
  obtain ⟨t, rfl⟩ := rx
  obtain ⟨t', rfl⟩ := ry
  exact notIn_str (fin_bl I q rfl)
theorem OpR.or {f : Value → Value → Sem Value} {r r' : R2} (h : OpR X f r) (h' : OpR X f r') : OpR X f (fun x y H Q => r x y H Q ∨ r' x y H Q) := by
  intro pins s σ H x y v u Q I rx ry q
  rcases q with q | q
  · exact h pins s σ H x y v u Q I rx ry q
  · exact h' pins s σ H x y v u Q I rx ry q
theorem nomark (b : Expr) {op : CmpOp} (h : op ≠ .In := by decide) (h2 : op ≠ .NotIn := by decide) : behindInMarks op b = false := by
  have e1 : (op == CmpOp.In) = false := by cases op <;> first | rfl | exact absurd rfl h
  have e2 : (op == CmpOp.NotIn) = false := by cases op <;> first | rfl | exact absurd rfl h2
  cases b <;> simp [behindInMarks, e1, e2]
theorem pe_cmpR {op : CmpOp} {r : R2} (ho : OpR X (compareOp op) r) (ha : PE X a ta) (hb : PE X b tb) (hm : behindInMarks op b = false) : PE X (.Compare a [op] [b] pos) (tOp r ta tb) := by
  intro pins s σ H Q I h
  exact wpAny_Compare1 (binT ha hb I h fun v u s2 x y H2 I2 rx ry q => ho pins s2 σ H2 x y v u Q I2 rx ry q) hm
def tTest (t : TE) : TT := fun σ H Q => t σ H fun x H' => ∃ k, x = .bl k ∧ Q k H'
theorem pt_cmpR {op : CmpOp} {r : R2} (ho : OpR X (compareOp op) r) (ha : PE X a ta) (hb : PE X b tb) (hm : behindInMarks op b = false) : PT X (.Compare a [op] [b] pos) (tTest (tOp r ta tb)) := by
  intro pins s σ H Q I h
  refine wpAny_isTrue_Compare1 (thn (ha pins s σ H _ I h) fun v s1 ⟨x, H1, I1, r1, q1⟩ => thn (hb pins s1 σ H1 _ I1 q1) fun u s2 ⟨y, H2, I2, r2, q2⟩ =>
    thn (ho pins s2 σ H2 x y v u _ I2 r1 r2 q2) fun c s3 ⟨z, H3, I3, r3, k, e, q3⟩ => ?_) hm
  subst e
  cases r3
  exact wpAny_truthy_bool ⟨H3, I3, q3⟩
def tChain (r r' : R2) (ta tb tc : TE) : TE := fun σ H Q => ta σ H fun x H1 => tb σ H1 fun y H2 => r x y H2 fun z H3 => ∃ k, z = .bl k ∧
  (if k = true then tc σ H3 fun w' H4 => r' y w' H4 Q else Q (.bl false) H3)
theorem pe_chain {op op' : CmpOp} {r r' : R2} (ho : OpR X (compareOp op) r) (ho' : OpR X (compareOp op') r') (ha : PE X a ta) (hb : PE X b tb) (hc : PE X c tc)
    (hm : lastMarks [op, op'] [b, c] = false := by with_unfolding_all rfl) : PE X (.Compare a [op, op'] [b, c] pos) (tChain r r' ta tb tc) := by
  intro pins s σ H Q I h
  refine Compare_chain (thn (ha pins s σ H _ I h) fun v s1 ⟨x, H1, I1, r1, q1⟩ => chain_link (thn (hb pins s1 σ H1 _ I1 q1) fun u s2 ⟨y, H2, I2, r2, q2⟩ =>
    thn (ho pins s2 σ H2 x y v u _ I2 r1 r2 q2) fun d s3 ⟨z, H3, I3, r3, k, e, q3⟩ => ?_)) hm
  subst e
  cases r3
  refine wpAny_truthy_bool ?_
  cases k with
  | false => exact ite_ff ⟨.bl false, H3, I3, rfl, q3⟩
  | true => exact ite_tt (chain_last (thn (hc pins s3 σ H3 _ I3 q3) fun w' s4 ⟨z', H4, I4, r4, q4⟩ => ho' pins s4 σ H4 y z' u w' Q I4 r2 r4 q4))
theorem pt_chain {op op' : CmpOp} {r r' : R2} (ho : OpR X (compareOp op) r) (ho' : OpR X (compareOp op') r') (ha : PE X a ta) (hb : PE X b tb) (hc : PE X c tc)
    (hm : lastMarks [op, op'] [b, c] = false := by with_unfolding_all rfl) : PT X (.Compare a [op, op'] [b, c] pos) (tTest (tChain r r' ta tb tc)) := by
  intro pins s σ H Q I h
  refine isTrue_chain (thn (ha pins s σ H _ I h) fun v s1 ⟨x, H1, I1, r1, q1⟩ => test_link (thn (hb pins s1 σ H1 _ I1 q1) fun u s2 ⟨y, H2, I2, r2, q2⟩ =>
    thn (ho pins s2 σ H2 x y v u _ I2 r1 r2 q2) fun d s3 ⟨z, H3, I3, r3, k, e, q3⟩ => ?_)) hm
  subst e
  cases r3
  refine wpAny_truthy_bool ?_
  cases k with
  | false =>
    obtain ⟨k', e', q'⟩ := q3
    cases e'
    exact ite_ff ⟨H3, I3, q'⟩
  | true =>
    refine ite_tt (test_last (thn (hc pins s3 σ H3 _ I3 q3) fun w' s4 ⟨z', H4, I4, r4, q4⟩ => thn (ho' pins s4 σ H4 y z' u w' _ I4 r2 r4 q4) fun d' s5 ⟨z2, H5, I5, r5, k2, e2, q5⟩ => ?_))
    subst e2
    cases r5
    exact wpAny_truthy_bool ⟨H5, I5, q5⟩
theorem line63 : (sizeLine : Nat) < 2 ^ 63 := by rw [sizeLine_eq]; decide
theorem op_add_str : OpR X (binaryOp .Add) (fun x y H Q => ∃ i j, x = .str i ∧ y = .str j ∧ i.length + j.length ≤ sizeLine ∧ Q (.str (i ++ j)) H) := by
  intro pins s σ H x y v u Q I rx ry h
  obtain ⟨i, j, rfl, rfl, hz, q⟩ := h
  obtain ⟨t, rfl⟩ := rx
  obtain ⟨t', rfl⟩ := ry
  exact add_str (fun t' tk => ⟨.str (i ++ j), H, I.tok _, ⟨_, rfl⟩, q⟩) hz
theorem vals1 {x : V} {us : List Value} (r : Vals [x] us) : ∃ u, us = [u] ∧ RelV x u := by
  cases r with
  | cons r1 r2 => cases r2; exact ⟨_, rfl, r1⟩
theorem vals2 {x y : V} {us : List Value} (r : Vals [x, y] us) : ∃ u w', us = [u, w'] ∧ RelV x u ∧ RelV y w' := by
  cases r with
  | cons r1 r2 =>
    cases r2 with
    | cons r3 r4 => cases r4; exact ⟨_, _, rfl, r1, r3⟩
theorem call_max2 (hc : X.calm = true) : CallR X (.builtin "max") (fun xs H Q => ∃ i j, xs = [.int i, .int j] ∧ Q (.int (if j > i then j else i)) H) := by
  intro pins s σ H xs us Q I r h
  obtain ⟨i, j, rfl, q⟩ := h
  obtain ⟨u, w', rfl, ⟨t, rfl⟩, ⟨t', rfl⟩⟩ := vals2 r
  refine max_two_ints (I.ok.hd hc) fun h' tk k => ⟨_, H, I.kept k, ?_, q⟩
  by_cases hj : j > i
  · rw [if_pos hj, if_pos hj]; exact ⟨_, rfl⟩
  · rw [if_neg hj, if_neg hj]; exact ⟨_, rfl⟩
theorem call_min2 (hc : X.calm = true) : CallR X (.builtin "min") (fun xs H Q => ∃ i j, xs = [.int i, .int j] ∧ Q (.int (if j < i then j else i)) H) := by
  intro pins s σ H xs us Q I r h
  obtain ⟨i, j, rfl, q⟩ := h
  obtain ⟨u, w', rfl, ⟨t, rfl⟩, ⟨t', rfl⟩⟩ := vals2 r
  refine min_two_ints (I.ok.hd hc) fun h' tk k => ⟨_, H, I.kept k, ?_, q⟩
  by_cases hj : j < i
  · rw [if_pos hj, if_pos hj]; exact ⟨_, rfl⟩
  · rw [if_neg hj, if_neg hj]; exact ⟨_, rfl⟩
theorem call_int1 : CallR X (.type "int") (fun xs H Q => (∃ i, xs = [.int i] ∧ Q (.int i) H) ∨ ∃ k, xs = [.bl k] ∧ Q (.int (if k then 1 else 0)) H) := by
  intro pins s σ H xs us Q I r h
  rcases h with ⟨i, rfl, q⟩ | ⟨k, rfl, q⟩
  · obtain ⟨u, rfl, t, rfl⟩ := vals1 r
    exact call_int_int ⟨.int i, H, I, ⟨_, rfl⟩, q⟩
  · obtain ⟨u, rfl, r1⟩ := vals1 r
    cases r1
    exact call_int_bool ⟨.int (if k then 1 else 0), H, I.tok _, ⟨_, rfl⟩, q⟩
theorem call_str_int : CallR X (.type "str") (fun xs H Q => ∃ i, xs = [.int i] ∧ i.natAbs.log2 < 1920 ∧ Q (.str (toString i)) H) := by
  intro pins s σ H xs us Q I r h
  obtain ⟨i, rfl, hz, q⟩ := h
  obtain ⟨u, rfl, t, rfl⟩ := vals1 r
  exact PySem.P.str_of_int hz ⟨.str _, H, I.tok _, ⟨_, rfl⟩, q⟩
end
end L2
namespace L2
open PySem PySem.Spec PyProof.Rows
structure ObjM (h : Heap) (x dx C : Addr) (mA : Str → Option Value) : Prop where
  obj : h.get? x = some (PySem.W.instObj C dx)
  ns : h.Ns1 dx mA
  ne : dx ≠ x
theorem lookIn_ns {h : Heap} {dx : Addr} {mA : Str → Option Value} (n : h.Ns1 dx mA) : ∃ od, h.get? dx = some od ∧ ∀ name, PySem.W.lookIn name od = some (mA name) := by
  obtain ⟨o, es, ep, ho, hd, hk, _, hm⟩ := n
  refine ⟨o, ho, fun name => ?_⟩
  have e := hm name
  unfold nsFind findBy at e
  rw [← Array.find?_toList] at e
  unfold PySem.W.lookIn
  rw [hd]
  dsimp only
  split
  · rename_i y q
    rw [q] at e
    exact congrArg some e
  · rename_i q
    rw [q] at e
    have a : es.toList.any (·.refKey) = false := by
      rw [List.any_eq_false]
      intro y hy
      obtain ⟨z, t, hkey⟩ := hk y (Array.mem_toList_iff.mp hy)
      simp [DictEntry.refKey, hkey]
    have a' : ¬ es.toList.any (·.refKey) = true := by rw [a]; exact Bool.false_ne_true
    rw [if_neg a']
    exact congrArg some e
theorem ObjM.look {h : Heap} {x dx C : Addr} {mA : Str → Option Value} (I : ObjM h x dx C mA) : ∃ od, PySem.W.InstAt h x (PySem.W.instObj C dx) C (some od) ∧ ∀ name, PySem.W.lookIn name od = some (mA name) :=
  let ⟨od, ho, hl⟩ := lookIn_ns I.ns
  ⟨od, ⟨I.obj, rfl, rfl, ho⟩, hl⟩
section
variable {prog : Program} {w : World} {A : Around} {E : Value → Shared → Prop} {s : Shared} {K : PySem.W.Frag} {x dx C f : Addr} {mA : Str → Option Value} {name : Str} {v : Value}
theorem get_map {expr : Bool} {Q : Value → Shared → Prop} (X : K.In s.heap) (I : ObjM s.heap x dx C mA) (hg : PySem.W.plainGet K C name = true) (hh : PySem.W.hasDictIn K C = true)
    (ha : PySem.W.findIn K (.ref C) name = some none) (hv : mA name = some v) (hv' : PySem.W.handedIn v = true) (h : Q v { s with toks := s.toks + 1 }) :
    wpAny (model prog w) A (getAttr (.ref x) name expr) Q E s := by
  obtain ⟨od, J, hl⟩ := I.look
  exact PySem.W.get_value X J (PySem.W.plainGet_of hg).1 (PySem.W.findObj_own hh ha rfl (by rw [hl, hv])) hv' h
theorem get_meth {pl : Sem Bool} {Q : Value × List Value → Shared → Prop} (X : K.In s.heap) (I : ObjM s.heap x dx C mA) (hg : PySem.W.plainGet K C name = true)
    (hf : PySem.W.findIn K (.ref C) name = some (some (.ref f))) (ht : PySem.W.isFn K (.ref f) = true) (hv : mA name = none) (h : Q (.ref f, [.ref x]) s) :
    wpAny (model prog w) A (getMethod (.ref x) name pl) Q E s := by
  obtain ⟨od, J, hl⟩ := I.look
  exact PySem.W.method_fn X J (PySem.W.plainGet_of hg).1 (PySem.W.plainGet_of hg).2 hf (beq_iff_eq.mp ht) (by show (PySem.W.lookIn name od).map (·.isSome) = some false; rw [hl, hv]; rfl) h
theorem set_map {ns : List Str} {Q : Unit → Shared → Prop} (X : K.In s.heap) (I : ObjM s.heap x dx C mA)
    (hs : PySem.W.findIn K (.ref C) "__setattr__" = some (some (.builtin "object.__setattr__"))) (hp : PySem.W.plainOver K C = true) (ht : PySem.W.takerIn K C name = some none) (hh : PySem.W.hasDictIn K C = true)
    (hw : PySem.Within mA ns) (hsz : ns.length ≤ sizeLine)
    (h : ∀ h', ObjM h' x dx C (fun y => if y = name then some v else mA y) → Heap.SameBut dx s.heap h' → Q () { s with heap := h', toks := s.toks + 2 }) :
    wpAny (model prog w) A (setAttr (.ref x) name v) Q E s := by
  obtain ⟨od, J, hl⟩ := I.look
  refine PySem.W.set_plain X J hs (PySem.W.osa_open (s := { s with toks := s.toks + 1 }) (r := none) X J hp ht fun b => ?_)
  obtain ⟨cd, hc, hd'⟩ := PySem.W.any_some hh
  have hx : s.heap.get? x = some ⟨.ref C, some dx, .plain, #[]⟩ := I.obj
  refine wpAny_bind (wpAny_pure (wpAny_bind (wpAny_bind (wpAny_loadPart hx (wpAny_bind (PySem.W.Looks.here (s := { s with toks := s.toks + 1 }) (PySem.W.looks_clsIn X hc) ?_))))))
  rw [hd']
  refine wpAny_pure (a := some dx) (wpAny_bind (wpAny_pure (wpAny_bind ?_)))
  refine wpAny_nsSet1 (s := { s with toks := s.toks + 1 }) I.ns fun h' hn2 hs2 => ?_
  obtain ⟨oD, esD, epD, hoD, hdD, hcD⟩ := hn2.count (PySem.Within.cons name v hw)
  refine wpAny_bind (wpAny_lookBehind hoD (by rw [hdD]; exact pastItsLine_dict (Nat.le_trans hcD (by rw [List.length_cons]; omega))) ?_)
  exact wpAny_pure (h _ ⟨(hs2.2 _ (Ne.symm I.ne)).trans I.obj, hn2, I.ne⟩ hs2)
theorem make_map {R : Result → Shared → Prop} {vs : List Value} {kw : List (Str × Value)} (X : K.In s.heap) (hm : PySem.W.makesIn K C = true)
    (hi : PySem.W.findIn K (.ref C) "__init__" = some (some (.ref f))) (hf : PySem.W.typeIn K (.ref f) = some (.type "function"))
    (h : codeAny (model prog w) (A.under (.builtin "type.__call__" ⟨.ref C :: vs, kw⟩)) (.call (.ref f) ⟨.ref (s.heap.objs.size + 1) :: vs, kw⟩) (PySem.W.InitBack (s.heap.objs.size + 1) R)
      { s with heap := (s.heap.push PySem.W.emptyDict).push (PySem.W.instObj C s.heap.objs.size) }) :
    codeAny (model prog w) A (.call (.ref C) ⟨vs, kw⟩) R s := by
  obtain ⟨hh, g, d, t, os⟩ := s
  exact PySem.W.make_core (PySem.W.makes_of X hm) (PySem.W.looks_findIn X hi) (fun self => PySem.W.bind_fn X self hf) (.inl rfl) h
end
def putF (f : Str) (v : V) : List (Str × V) → List (Str × V)
  | [] => [(f, v)]
  | (g, x) :: r => if g = f then (g, v) :: r else (g, x) :: putF f v r
theorem lookup_putF (f g : Str) (v : V) : ∀ fs : List (Str × V), (putF f v fs).lookup g = if g = f then some v else fs.lookup g
  | [] => by
    show List.lookup g [(f, v)] = _
    by_cases h : g = f
    · have hb : (g == f) = true := beq_iff_eq.mpr h
      simp only [List.lookup, hb, if_pos h]
    · have hb : (g == f) = false := beq_eq_false_iff_ne.mpr h
      simp only [List.lookup, hb, if_neg h]
  | (k, x) :: r => by
    have ih := lookup_putF f g v r
    rw [show putF f v ((k, x) :: r) = (if k = f then (k, v) :: r else (k, x) :: putF f v r) from rfl]
    by_cases hk : k = f
    · rw [if_pos hk]
      by_cases h : g = k
      · have hb : (g == k) = true := beq_iff_eq.mpr h
        simp only [List.lookup, hb, if_pos (h.trans hk)]
      · have hb : (g == k) = false := beq_eq_false_iff_ne.mpr h
        simp only [List.lookup, hb, if_neg (fun e : g = f => h (e.trans hk.symm))]
    · rw [if_neg hk]
      by_cases h : g = k
      · have hb : (g == k) = true := beq_iff_eq.mpr h
        simp only [List.lookup, hb, if_neg (fun e : g = f => hk (h.symm.trans e))]
      · have hb : (g == k) = false := beq_eq_false_iff_ne.mpr h
        simp only [List.lookup, hb]
        exact ih
theorem keys_putF (f : Str) (v : V) : ∀ fs : List (Str × V), f ∈ (putF f v fs).map (·.1) ∧ ∀ g, g ∈ fs.map (·.1) → g ∈ (putF f v fs).map (·.1)
  | [] => ⟨by simp [putF], fun g h => by simp at h⟩
  | (k, x) :: r => by
    obtain ⟨i1, i2⟩ := keys_putF f v r
    rw [show putF f v ((k, x) :: r) = (if k = f then (k, v) :: r else (k, x) :: putF f v r) from rfl]
    by_cases hk : k = f
    · rw [if_pos hk]
      subst hk
      exact ⟨by simp, fun g h => by simpa using h⟩
    · rw [if_neg hk]
      refine ⟨?_, fun g h => ?_⟩
      · rw [List.map_cons]
        exact List.mem_cons_of_mem _ i1
      · rw [List.map_cons] at h ⊢
        rcases List.mem_cons.mp h with e | e
        · exact List.mem_cons.mpr (.inl e)
        · exact List.mem_cons_of_mem _ (i2 g e)
theorem length_putF (f : Str) (v : V) : ∀ fs : List (Str × V), (putF f v fs).length ≤ fs.length + 1
  | [] => by simp [putF]
  | (k, x) :: r => by
    have ih := length_putF f v r
    rw [show putF f v ((k, x) :: r) = (if k = f then (k, v) :: r else (k, x) :: putF f v r) from rfl]
    by_cases hk : k = f
    · rw [if_pos hk, List.length_cons, List.length_cons]; omega
    · rw [if_neg hk, List.length_cons, List.length_cons]; omega
theorem RelO.some_of {v : V} {o : Option Value} (r : RelO (some v) o) : ∃ u, o = some u ∧ RelV v u := by
  cases o with
  | none => exact (show False from r).elim
  | some u => exact ⟨u, rfl, r⟩
theorem RelO.none_of {o : Option Value} (r : RelO none o) : o = none := by
  cases o with
  | none => rfl
  | some u => exact (show False from r).elim
theorem handed_of {v : V} {u : Value} (r : RelV v u) : PySem.W.handedIn u = true := by
  cases v with
  | non => cases (show u = Value.none from r); rfl
  | bl b => cases (show u = Value.bool b from r); rfl
  | int i => obtain ⟨t, e⟩ := (show ∃ t, u = Value.int i t from r); cases e; rfl
  | str x => obtain ⟨t, e⟩ := (show ∃ t, u = Value.str x t from r); cases e; rfl
  | byt b => obtain ⟨t, e⟩ := (show ∃ t, u = Value.bytes b t from r); cases e; rfl
  | flt b => obtain ⟨t, e⟩ := (show ∃ t, u = Value.float b t from r); cases e; rfl
  | ref a => cases (show u = Value.ref a from r); rfl
  | ty n => cases (show u = Value.type n from r); rfl
section
variable {P : Program} {w : World} {H H' : Hp} {h h' : Heap} {a C dx : Addr} {fs fs' : List (Str × V)}
theorem ins_get (hok : HOk P w H h) (e : H a = some (.ins C dx fs)) : ∃ mA, ObjM h a dx C mA ∧ (∀ f, RelO (fs.lookup f) (mA f)) ∧ PySem.Within mA (fs.map (·.1)) ∧ fs.length ≤ 1000 ∧ H dx = some (.own a) := by
  obtain ⟨d, z, ne, ob, mA, n, r, q⟩ := (show ObjOk P w H h a (.ins C dx fs) from hok a _ e)
  exact ⟨mA, ⟨ob, n, ne⟩, r, q, z, d⟩
end
structure Cls (K : PySem.W.Frag) (C : Addr) : Prop where
  pg : PySem.W.plainGet K C Str.empty = true
  hd : PySem.W.hasDictIn K C = true
  po : PySem.W.plainOver K C = true
  sa : PySem.W.findIn K (.ref C) "__setattr__" = some (some (.builtin "object.__setattr__"))
theorem Cls.get {K : PySem.W.Frag} {C : Addr} (c : Cls K C) (f : Str) : PySem.W.plainGet K C f = true := c.pg
def NoAttr (K : PySem.W.Frag) (C : Addr) (f : Str) : Prop := PySem.W.findIn K (.ref C) f = some none
theorem NoAttr.taker {K : PySem.W.Frag} {C : Addr} {f : Str} (n : NoAttr K C f) : PySem.W.takerIn K C f = some none := by
  unfold PySem.W.takerIn
  rw [show PySem.W.findIn K (.ref C) f = some none from n]
  rfl
structure Meth (K : PySem.W.Frag) (C : Addr) (m : Str) (f : Addr) : Prop where
  at_ : PySem.W.findIn K (.ref C) m = some (some (.ref f))
  fn : PySem.W.isFn K (.ref f) = true
  kp : PySem.W.keepIn K (.ref f) = true
section
variable {X : Cx} {pins : List (Addr × Obj)} {σ : St} {H : Hp} {s : Shared} {a C dx : Addr} {fs : List (Str × V)} {f : Str} {v : V} {A : Around} {E : Value → Shared → Prop}
theorem getattr_ok {b : Bool} {Q : Value → Shared → Prop} (I : Inv X pins σ H s) (e : H a = some (.ins C dx fs)) (c : Cls X.K C) (n : NoAttr X.K C f) (l : fs.lookup f = some v)
    (h : ∀ u s', Inv X pins σ H s' → RelV v u → Q u s') : wpAny (model X.prog X.w) A (getAttr (.ref a) f b) Q E s := by
  obtain ⟨mA, O, r, _, _, _⟩ := ins_get I.hok e
  obtain ⟨u, hu, ru⟩ := RelO.some_of (v := v) (o := mA f) (by rw [← l]; exact r f)
  exact get_map I.kIn O (c.get f) c.hd n hu (handed_of ru) (h u _ (I.tok _) ru)
theorem getmeth_ok {m : Str} {g : Addr} {pl : Sem Bool} {Q : Value × List Value → Shared → Prop} (I : Inv X pins σ H s) (e : H a = some (.ins C dx fs)) (c : Cls X.K C) (k : Meth X.K C m g) (l : fs.lookup m = none)
    (h : Q (.ref g, [.ref a]) s) : wpAny (model X.prog X.w) A (getMethod (.ref a) m pl) Q E s := by
  obtain ⟨mA, O, r, _, _, _⟩ := ins_get I.hok e
  have hn : mA m = none := RelO.none_of (by rw [← l]; exact r m)
  exact get_meth I.kIn O (c.get m) k.at_ k.fn hn h
theorem setattr_ok {y : V} {u : Value} {Q : Unit → Shared → Prop} (I : Inv X pins σ H s) (e : H a = some (.ins C dx fs)) (c : Cls X.K C) (n : NoAttr X.K C f) (hl : fs.length < 1000) (ry : RelV y u)
    (h : ∀ s', Inv X pins σ (upd H a (.ins C dx (putF f y fs))) s' → Q () s') : wpAny (model X.prog X.w) A (setAttr (.ref a) f u) Q E s := by
  obtain ⟨mA, O, r, wi, _, ho⟩ := ins_get I.hok e
  have hz : (fs.map (·.1)).length ≤ sizeLine := by rw [List.length_map, sizeLine_eq]; omega
  refine set_map I.kIn O c.sa c.po n.taker c.hd wi hz fun h' O' sb => h _ ?_
  have hd : ∃ o, h'.get? dx = some o := let ⟨o, _, _, e', _⟩ := O'.ns; ⟨o, e'⟩
  refine I.write (x := a) (e := dx) (by rw [e]; exact True.intro) (.inr ho) (fun b q hb z => (sb.2 b hb).trans z) hd ?_
  refine ⟨by rw [upd_ne O.ne]; exact ho, ?_, O.ne, O'.obj, _, O'.ns, fun g => ?_, fun g hg => ?_⟩
  · have := length_putF f y fs; omega
  · show RelO ((putF f y fs).lookup g) (if g = f then some u else mA g)
    rw [lookup_putF]
    by_cases q : g = f
    · rw [if_pos q, if_pos q]; exact ry
    · rw [if_neg q, if_neg q]; exact r g
  · by_cases q : g = f
    · rw [q]; exact (keys_putF f y fs).1
    · refine (keys_putF f y fs).2 g (wi g fun z => hg ?_)
      show (if g = f then some u else mA g) = none
      rw [if_neg q]; exact z
theorem Inv.made (I : Inv X pins σ H s) : Inv X pins σ (upd (upd H s.heap.objs.size (.own (s.heap.objs.size + 1))) (s.heap.objs.size + 1) (.ins C s.heap.objs.size []))
    { s with heap := (s.heap.push PySem.W.emptyDict).push (PySem.W.instObj C s.heap.objs.size) } := by
  have e1 : (s.heap.push PySem.W.emptyDict).get? s.heap.objs.size = some PySem.W.emptyDict := Heap.get?_push_size s.heap rfl
  have e2 : ((s.heap.push PySem.W.emptyDict).push (PySem.W.instObj C s.heap.objs.size)).get? (s.heap.objs.size + 1) = some (PySem.W.instObj C s.heap.objs.size) := by
    have := Heap.get?_push_size (s.heap.push PySem.W.emptyDict) (o := PySem.W.instObj C s.heap.objs.size) rfl
    rwa [Heap.size_push] at this
  have e3 : (s.heap.push PySem.W.emptyDict).Ns s.heap.objs.size (fun _ => none) := ⟨PySem.W.emptyDict, #[], _, e1, rfl, (fun e he => absurd he (by simp)), fun _ => rfl⟩
  have I1 := I.laid (a := s.heap.objs.size) (o := .own (s.heap.objs.size + 1)) (h' := s.heap.push PySem.W.emptyDict) (t' := s.toks) (fun b u q => Heap.get?_push_of_some _ q) (Nat.le_refl _) ⟨_, e1⟩
  refine I1.laid (a := s.heap.objs.size + 1) (o := .ins C s.heap.objs.size []) (t' := s.toks) (fun b u q => Heap.get?_push_of_some _ q) (Nat.le_of_eq (Heap.size_push _ _)) ?_
  have ne : s.heap.objs.size ≠ s.heap.objs.size + 1 := Nat.ne_of_lt (Nat.lt_succ_self _)
  refine ⟨by rw [upd_ne ne, upd_same], Nat.zero_le _, ne, e2, fun _ => none, (Heap.Ns1.of_empty e3).at fun o q => Heap.get?_push_of_some _ q, fun _ => True.intro, fun y hy => absurd rfl hy⟩
theorem attr_of {prog : Program} {w : World} {env : Env} {e : Expr} {f : Str} {pos : Pos} {s : Shared} {Q : Value → Shared → Prop} (hb : attributeBase e f env (eval e env) = eval e env)
    (h : wpAny (model prog w) A (eval e env) (fun o s₁ => wpAny (model prog w) A (getAttr o f true) Q E s₁) E s) : wpAny (model prog w) A (eval (.Attribute e f pos) env) Q E s :=
  Attribute_any_ h (by rw [arm_eval_Attribute, hb])
end
def tFld (K : PySem.W.Frag) (ta : TE) (f : Str) : TE := fun σ H Q => ta σ H fun x H1 => ∃ a C dx fs v, x = .ref a ∧ H1 a = some (.ins C dx fs) ∧ Cls K C ∧ NoAttr K C f ∧ fs.lookup f = some v ∧ Q v H1
def sFld (K : PySem.W.Frag) (ta tv : TE) (f : Str) : TS := fun D σ H => tv σ H fun y H1 => ta σ H1 fun x H2 => ∃ a C dx fs, x = .ref a ∧ H2 a = some (.ins C dx fs) ∧ Cls K C ∧ NoAttr K C f ∧ fs.length < 1000 ∧
  D.nx σ (upd H2 a (.ins C dx (putF f y fs)))
section
variable {X : Cx} {o e value : Expr} {f : Str} {pos pos' tpos : Pos} {ta tv : TE}
theorem pe_fld (he : PE X e ta) (hb : attributeBase e f X.env (eval e X.env) = eval e X.env) : PE X (.Attribute e f pos) (tFld X.K ta f) := by
  intro pins s σ H Q I h
  refine attr_of hb (thn (he pins s σ H _ I h) fun u s1 ⟨x, H1, I1, rx, a, C, dx, fs, v, ex, ea, c, n, l, q⟩ => ?_)
  subst ex
  obtain rfl : u = Value.ref a := rx
  exact getattr_ok I1 ea c n l fun u' s2 I2 ru => ⟨v, H1, I2, ru, q⟩
theorem ps_fld (ha : PE X o ta) (hv : PE X value tv) (hs : swapsWith value (some (.Attribute o f pos')) pos.line X.env = pure false) : PS X (.Assign [.Attribute o f pos'] value pos) (sFld X.K ta tv f) := by
  intro pins s σ H D I h
  refine plainObj_wpAny_Assign_Attribute (thn (hv pins s σ H _ I h) fun u s1 ⟨y, H1, I1, ry, q⟩ => thn (ha pins s1 σ H1 _ I1 q) fun ov s2 ⟨x, H2, I2, rx, a, C, dx, fs, ex, ea, c, n, l, q2⟩ => ?_) hs
  subst ex
  obtain rfl : ov = Value.ref a := rx
  exact setattr_ok I2 ea c n l ry fun s3 I3 => ⟨σ, _, I3, q2⟩
end
section
variable {X : Cx} {pins : List (Addr × Obj)} {σ : St} {H : Hp} {s : Shared} {A : Around} {E : Value → Shared → Prop} {Q : Value → Shared → Prop} {c : Value} {b : Bool}
inductive TyOf (K : PySem.W.Frag) (H : Hp) : V → Value → Prop where
  | non : TyOf K H .non (.type "NoneType")
  | bl (x : Bool) : TyOf K H (.bl x) (.type "bool")
  | int (i : Int) : TyOf K H (.int i) (.type "int")
  | str (x : Str) : TyOf K H (.str x) (.type "str")
  | flt (x : UInt64) : TyOf K H (.flt x) (.type "float")
  | lst {a : Addr} {xs : List V} (e : H a = some (.lst xs)) : TyOf K H (.ref a) (.type "list")
  | frz {a : Addr} {o : Obj} {xs : List V} (e : H a = some (.frz o (.lst xs))) : TyOf K H (.ref a) (.type "list")
  | tup {a : Addr} {xs : List V} (e : H a = some (.tup xs)) : TyOf K H (.ref a) (.type "tuple")
  | dK {a : Addr} {kvs : List (Key × V)} (e : H a = some (.dK kvs)) : TyOf K H (.ref a) (.type "dict")
  | dT {a : Addr} {kvs : List (List Key × V)} (e : H a = some (.dT kvs)) : TyOf K H (.ref a) (.type "dict")
  | ins {a C dx : Addr} {fs : List (Str × V)} (e : H a = some (.ins C dx fs)) (cl : Cls K C) (ha : PySem.W.findIn K (.ref C) "__class__" = some (some (.builtin "object.__class__")))
      (hn : PySem.W.specialIn K (.builtin "object.__class__") "__get__" = some (some (.builtin "getset_descriptor.__get__"))) (htk : PySem.W.takesIn K (.builtin "object.__class__") = some true)
      (hm : PySem.W.mroIn K C (.type "object") = some true) : TyOf K H (.ref a) (.ref C)
theorem isinst_ok {x : V} {u t : Value} (I : Inv X pins σ H s) (rx : RelV x u) (ty : TyOf X.K H x t) (e : PySem.W.kitOne X.K t c = some b) (h : ∀ tk, Q (.bool b) { s with toks := tk }) :
    wpAny (model X.prog X.w) A (call (.builtin "isinstance") [u, c]) Q E s := by
  cases ty with
  | non => cases (show u = Value.none from rx); exact PySem.W.kia_one PySem.W.kitx_none I.kIn True.intro e (fun z => nomatch z) h
  | bl y => cases (show u = Value.bool y from rx); exact PySem.W.kia_one PySem.W.kitx_bool I.kIn True.intro e (fun z => nomatch z) h
  | int i => obtain ⟨t, q⟩ := (show ∃ t, u = Value.int i t from rx); cases q; exact PySem.W.kia_one PySem.W.kitx_int I.kIn True.intro e (fun z => nomatch z) h
  | str y => obtain ⟨t, q⟩ := (show ∃ t, u = Value.str y t from rx); cases q; exact PySem.W.kia_one PySem.W.kitx_str I.kIn True.intro e (fun z => nomatch z) h
  | flt y => obtain ⟨t, q⟩ := (show ∃ t, u = Value.float y t from rx); cases q; exact PySem.W.kia_one PySem.W.kitx_float I.kIn True.intro e (fun z => nomatch z) h
  | @lst a xs ea =>
    cases (show u = Value.ref a from rx)
    obtain ⟨_, _, n, _, h1⟩ := (show ObjOk X.prog X.w H s.heap a (.lst xs) from I.hok a _ ea)
    exact PySem.W.kia_one PySem.W.kitx_list I.kIn ⟨_, h1, rfl⟩ e (fun z => nomatch z) h
  | @frz a ob xs ea =>
    cases (show u = Value.ref a from rx)
    obtain ⟨_, _, _, n, _, h1⟩ := (show ObjOk X.prog X.w H s.heap a (.frz ob (.lst xs)) from I.hok a _ ea)
    exact PySem.W.kia_one PySem.W.kitx_list I.kIn ⟨_, h1, rfl⟩ e (fun z => nomatch z) h
  | @tup a xs ea =>
    cases (show u = Value.ref a from rx)
    obtain ⟨_, _, _, p⟩ := (show ObjOk X.prog X.w H s.heap a (.tup xs) from I.hok a _ ea)
    obtain ⟨o, h1, h2, _⟩ := p
    exact PySem.W.kia_one PySem.W.kitx_tuple I.kIn ⟨o, h1, h2⟩ e (fun z => nomatch z) h
  | @dK a kvs ea =>
    cases (show u = Value.ref a from rx)
    obtain ⟨_, _, vs, _, p⟩ := (show ObjOk X.prog X.w H s.heap a (.dK kvs) from I.hok a _ ea)
    obtain ⟨o, es, ep, h1, h2, _⟩ := p
    exact PySem.W.kia_one PySem.W.kitx_dict I.kIn ⟨o, h1, h2.1⟩ e (fun z => nomatch z) h
  | @dT a kvs ea =>
    cases (show u = Value.ref a from rx)
    obtain ⟨_, _, xs, _, o, es, ep, h1, h2, _⟩ := (show ObjOk X.prog X.w H s.heap a (.dT kvs) from I.hok a _ ea)
    exact PySem.W.kia_one PySem.W.kitx_dict I.kIn ⟨o, h1, h2.1⟩ e (fun z => nomatch z) h
  | @ins a C dx fs ea cl ha hn htk hm =>
    cases (show u = Value.ref a from rx)
    obtain ⟨mA, O, _⟩ := ins_get I.hok ea
    obtain ⟨od, J, _⟩ := O.look
    exact PySem.W.kia_one (PySem.W.kitx_own (cl.get _) cl.hd ha hn htk hm) I.kIn J e (fun z => nomatch z) h
end
end L2
namespace L2
open PySem PySem.Spec PyProof.Rows
structure Room (k : Nat) (A : Around) : Prop where
  hd : A.handled = none
  dp : A.depth + 3 * k + 5 < recursionLimit
  un : A.units + 16 * k + 200 < cLine
theorem Room.mono {j k : Nat} {A : Around} (r : Room k A) (h : j ≤ k) : Room j A := ⟨r.hd, by have := r.dp; omega, by have := r.un; omega⟩
theorem Room.deeper {k : Nat} {A : Around} (r : Room (k + 1) A) (env : Env) : Room k (A.deeper env) :=
  ⟨r.hd, by have := r.dp; show A.depth + 1 + 3 * k + 5 < _; omega, by have := r.un; show A.units + 3 + 16 * k + 200 < _; omega⟩
theorem make_depth {A : Around} {C : Addr} {us : List Value} {kw : List (Str × Value)} : (A.under (.builtin "type.__call__" ⟨.ref C :: us, kw⟩)).depth = A.depth + 1 := by
  first | rfl | simp [Around.under, Code.weight, Code.isCreation, Code.isGuard, Code.isCaller, Code.frames, Code.isFrame, guardIds]
theorem make_units {A : Around} {C : Addr} {us : List Value} {kw : List (Str × Value)} : (A.under (.builtin "type.__call__" ⟨.ref C :: us, kw⟩)).units = A.units + 1 := by
  first | rfl | simp [Around.under, Code.cUnits, Code.frames, Code.isFrame]
theorem Room.make {k : Nat} {A : Around} (r : Room (k + 1) A) (C : Addr) (us : List Value) (kw : List (Str × Value)) : Room k (A.under (.builtin "type.__call__" ⟨.ref C :: us, kw⟩)) :=
  ⟨r.hd, by have := r.dp; rw [make_depth]; omega, by have := r.un; rw [make_units]; omega⟩
theorem Room.depth {k : Nat} {A : Around} (r : Room k A) : A.depth < recursionLimit := by have := r.dp; omega
theorem Room.units {k : Nat} {A : Around} (r : Room k A) : A.units + 64 < cLine := by have := r.un; omega
def tNil : TA := fun _ H Q => Q [] H
def tCons (ta : TE) (tr : TA) : TA := fun σ H Q => ta σ H fun x H1 => tr σ H1 fun xs H2 => Q (x :: xs) H2
section
variable {X : Cx} {e : Expr} {es : List Expr} {te : TE} {t : TA} {pos : Pos}
theorem pa_nil : PA X [] tNil := fun _ _ _ _ H Q I h => Calls.spliced_nil ⟨[], H, I, .nil, h⟩
theorem pa_cons (ha : PE X e te) (hr : PA X es t) (hs : starEach (e :: es) X.env = (false, eval e X.env) :: starEach es X.env := by rfl) : PA X (e :: es) (tCons te t) := by
  intro pos pins s σ H Q I h
  rw [hs]
  show wpAny _ _ (spliced ((false, eval e X.env) :: backTo pos (starEach es X.env))) _ _ s
  refine Calls.spliced_cons (thn (ha pins s σ H _ I h) fun u s1 ⟨x, H1, I1, r1, q1⟩ => ?_)
  exact thn (hr pos pins s1 σ H1 _ I1 q1) fun us s2 ⟨xs, H2, I2, r2, q2⟩ => ⟨x :: xs, H2, I2, .cons r1 r2, q2⟩
def tTup (t : TA) : TE := fun σ H Q => t σ H fun xs H1 => xs.length ≤ sizeLine ∧ ∀ p, H1 p = none → Q (.ref p) (upd H1 p (.tup xs))
def tLst (t : TA) : TE := fun σ H Q => t σ H fun xs H1 => xs.length ≤ sizeLine ∧ ∀ p, H1 p = none → Q (.ref p) (upd H1 p (.lst xs))
theorem pe_tup {x1} (h : PA X es t) : PE X (.Tuple es x1 pos) (tTup t) := by
  intro pins s σ H Q I hq
  refine wpAny_Tuple_spliced (thn (h pos pins s σ H _ I hq) fun us s1 ⟨xs, H1, I1, r, z, q⟩ => ⟨by rw [← r.length]; exact z, ?_⟩)
  have hf : H1 s1.heap.objs.size = none := I1.hok.fresh (Nat.le_refl _)
  refine ⟨.ref s1.heap.objs.size, upd H1 s1.heap.objs.size (.tup xs), I1.laid (t' := s1.toks) (fun b u e => Heap.get?_push_of_some _ e) (Nat.le_refl _) ?_, rfl, q _ hf⟩
  exact ⟨z, us, r, ⟨_, Heap.get?_push_size _ rfl, rfl, _, rfl⟩⟩
theorem pe_lst (h : PA X es t) : PE X (.List es pos) (tLst t) := by
  intro pins s σ H Q I hq
  refine wpAny_List_spliced (thn (h pos pins s σ H _ I hq) fun us s1 ⟨xs, H1, I1, r, z, q⟩ => ⟨by rw [← r.length]; exact z, ?_⟩)
  have hf : H1 s1.heap.objs.size = none := I1.hok.fresh (Nat.le_refl _)
  refine ⟨.ref s1.heap.objs.size, upd H1 s1.heap.objs.size (.lst xs), I1.laid (t' := s1.toks) (fun b u e => Heap.get?_push_of_some _ e) (Nat.le_refl _) ?_, rfl, q _ hf⟩
  exact ⟨z, us, 0, r, Heap.get?_push_size _ rfl⟩
end
abbrev Sp := List V → Hp → VK → XK → Prop
abbrev CXT := List Env → Hp → Shared → XK → Value → Shared → Prop
structure Env0 (P : Program) (w : World) (K : PySem.W.Frag) (mg : Str → Option Value) (base : Heap) (A : Around) (outer : List Env) (s : Shared) (H : Hp) : Prop where
  frames : A.frames = some outer
  mod : Mod K mg base
  bs : ∀ b o, base.get? b = some o → s.heap.get? b = some o ∧ H b = none
  bsz : base.objs.size ≤ s.heap.objs.size
  funs : s.heap.FunFrames base outer
  frf : ∀ b ∈ frs outer, H b = none
  hok : HOk P w H s.heap
  bare : AllBare s.gens
def CE (outer : List Env) (P : Program) (w : World) (H : Hp) (s : Shared) (Q : VK) (u : Value) (s' : Shared) : Prop :=
  ∃ v H', s'.os = s.os ∧ AllBare s'.gens ∧ Un (frs outer) [] H H' s.heap s'.heap ∧ HOk P w H' s'.heap ∧ RelV v u ∧ Q v H'
def CR (CX : CXT) (outer : List Env) (P : Program) (w : World) (H : Hp) (s : Shared) (Q : VK) (E : XK) (r : Result) (s' : Shared) : Prop :=
  match r with
  | .ok (.ret u) => CE outer P w H s Q u s'
  | .ok _ => False
  | .error e => CX outer H s E e s'
structure FnOk (P : Program) (w : World) (K : PySem.W.Frag) (mg : Str → Option Value) (base : Heap) (CX : CXT) (k : Nat) (f : Addr) (fd : FuncData) (ps : List Str) (sp : Sp) : Prop where
  len : ∀ vs H Q E, sp vs H Q E → vs.length = ps.length
  run : ∀ (A : Around) (outer : List Env) (s : Shared) (H : Hp) (args : Args) (us : List Value) (vs : List V) (Q : VK) (E : XK), Room k A → Env0 P w K mg base A outer s H → BindsTo s fd args (ps.zip us) → Vals vs us → sp vs H Q E →
    codeAny (model P w) A (.call (.ref f) args) (CR CX outer P w H s Q E) s
theorem Env0.make {P : Program} {w : World} {K : PySem.W.Frag} {mg : Str → Option Value} {base : Heap} {A : Around} {outer : List Env} {s : Shared} {H : Hp} (e : Env0 P w K mg base A outer s H) (C : Addr) (us : List Value) (kw : List (Str × Value)) :
    Env0 P w K mg base (A.under (.builtin "type.__call__" ⟨.ref C :: us, kw⟩)) outer s H := ⟨by first | exact e.frames | (simpa [Around.under, Code.envs, Code.isFrame, pushEnvs] using e.frames), e.mod, e.bs, e.bsz, e.funs, e.frf, e.hok, e.bare⟩
section
variable {X : Cx} {pins : List (Addr × Obj)} {σ : St} {H : Hp} {s s' : Shared}
theorem Inv.env0 (I : Inv X pins σ H s) : Env0 X.prog X.w X.K X.mg X.base X.A X.stack s H :=
  ⟨I.ok.frames, I.ok.mod, I.bs, Nat.le_trans I.ok.bsz I.sz, I.stack, I.stkFree, I.hok, I.bare⟩
theorem Inv.after {Q : VK} {u : Value} (I : Inv X pins σ H s) (h : CE X.stack X.prog X.w H s Q u s') : EP X pins σ Q u s' := by
  obtain ⟨v, H', os, bare, un, hok, r, q⟩ := h
  obtain ⟨hh, g, d, t, os'⟩ := s'
  obtain rfl : os' = s.os := os
  exact ⟨v, H', I.call (h' := hh) (g' := g) (d' := d) (t' := t) (ch := []) un hok bare (fun b z => absurd z (by simp)), r, q⟩
end
def tCall (sp : Sp) (dvs : List V) (E : XK) (t : TA) : TE := fun σ H Q => t σ H fun vs H1 => sp (vs ++ dvs) H1 Q E
def tMeth (C : Addr) (m : Str) (sp : Sp) (dvs : List V) (E : XK) (ta : TE) (t : TA) : TE := fun σ H Q => ta σ H fun x H1 => ∃ a dx fs, x = .ref a ∧ H1 a = some (.ins C dx fs) ∧ fs.lookup m = none ∧
  t σ H1 fun vs H2 => sp (x :: (vs ++ dvs)) H2 Q E
def tMake (C : Addr) (sp : Sp) (dvs : List V) (E : XK) (t : TA) : TE := fun σ H Q => t σ H fun vs H1 => ∀ x dx, H1 x = none → H1 dx = none → dx ≠ x →
  sp (.ref x :: (vs ++ dvs)) (upd (upd H1 dx (.own x)) x (.ins C dx [])) (fun v H2 => v = .non ∧ Q (.ref x) H2) E
def Binds (K : PySem.W.Frag) (fd : FuncData) (ps : List Str) (ds : List Value) : Prop :=
  ∀ (s : Shared) (us : List Value), K.In s.heap → (us ++ ds).length = ps.length → BindsTo s fd ⟨us, []⟩ (ps.zip (us ++ ds))
theorem Binds.all {K : PySem.W.Frag} {fd : FuncData} {ps : List Str} (h : ∀ us : List Value, us.length = ps.length → bindArgs fd ⟨us, []⟩ = pure (ps.zip us)) : Binds K fd ps [] := fun s us _ hl => by
  rw [List.append_nil] at hl ⊢
  exact .of_eq (h us hl)
def Passes (CX : CXT) (X : Cx) (E : XK) : Prop := ∀ (pins : List (Addr × Obj)) (σ : St) (H : Hp) (s : Shared) (e : Value) (s' : Shared), Inv X pins σ H s → CX X.stack H s E e s' → X.xe e s'
section
variable {X : Cx} {CX : CXT} {k : Nat} {f C : Addr} {fd : FuncData} {ps : List Str} {sp : Sp} {dvs : List V} {ds : List Value} {E : XK} {x m : Str} {p pos apos : Pos} {e o : Expr} {es : List Expr} {ta : TE} {t : TA}
theorem run_fn {pins : List (Addr × Obj)} {σ : St} {H : Hp} {s : Shared} {Q : VK} {us : List Value} {vs : List V} (F : FnOk X.prog X.w X.K X.mg X.base CX k f fd ps sp) (hr : Room k X.A) (hb : Binds X.K fd ps ds) (hd : Vals dvs ds) (hx : Passes CX X E)
    (I : Inv X pins σ H s) (r : Vals vs us) (h : sp (vs ++ dvs) H Q E) : wpAny (model X.prog X.w) X.A (call (.ref f) us) (EP X pins σ Q) X.xe s := by
  have r2 : Vals (vs ++ dvs) (us ++ ds) := r.append hd
  have hl : (us ++ ds).length = ps.length := by rw [← r2.length]; exact F.len _ _ _ _ h
  refine wpAny_call (codeAny_mono (F.run X.A X.stack s H ⟨us, []⟩ (us ++ ds) (vs ++ dvs) Q E hr I.env0 (hb s us I.kIn hl) r2 h) fun r s' hq => ?_)
  cases r with
  | error e => exact hx pins σ H s e s' I hq
  | ok fl =>
    cases fl with
    | ret u => exact I.after hq
    | next => exact False.elim hq
    | brk => exact False.elim hq
    | cont => exact False.elim hq
theorem pe_call (F : FnOk X.prog X.w X.K X.mg X.base CX k f fd ps sp) (hr : Room k X.A) (hg : Gl X x) (hm : X.mg x = some (.ref f)) (hk : PySem.W.keepIn X.K (.ref f) = true) (hb : Binds X.K fd ps ds) (hd : Vals dvs ds) (hx : Passes CX X E)
    (ha : PA X (e :: es) t) (hdb : (x == ("__debug__" : Str)) = false := by decide) (he : starEach (e :: es) X.env = (false, eval e X.env) :: starEach es X.env := by rfl) (hpl : (backTo pos (starEach es X.env)).any (·.1) = false := by rfl) :
    PE X (.Call (.Name x p) (e :: es) [] pos) (tCall sp dvs E t) := by
  intro pins s σ H Q I h
  refine wpAny_Call_Name_kw (ld_glob I hg hm ?_ hdb)
  refine PySem.W.callWith_K (h₀ := X.base) I.ok.mod.kin hk (thn (ha pos pins s σ H _ I h) fun us s1 ⟨vs, H1, I1, r, q⟩ => ⟨I1.kIn, ?_⟩) he hpl
  exact run_fn F hr hb hd hx I1 r q
theorem pe_meth0 {pl : Sem Bool} (he : PE X o ta) (c : Cls X.K C) (hm : Meth X.K C m f) (F : FnOk X.prog X.w X.K X.mg X.base CX k f fd ps sp) (hr : Room k X.A) (hb : Binds X.K fd ps ds) (hd : Vals dvs ds) (hx : Passes CX X E)
    (ht : eval (.Call (.Attribute o m apos) [] [] pos) X.env = (do
      let ov ← eval o X.env
      standAt apos.atName
      let (f, first) ← holding [ov] (getMethod ov m pl)
      callWith pos f first (backTo pos (starEach [] X.env)) (backToKw pos (keywordEach [] X.env))) := by rfl) :
    PE X (.Call (.Attribute o m apos) [] [] pos) (tMeth C m sp dvs E ta tNil) := by
  intro pins s σ H Q I h
  refine PySem.W.methodCall_KW (pl := pl) (thn (he pins s σ H _ I h) fun u s1 ⟨x, H1, I1, rx, a, dx, fs, ex, ea, l, q⟩ => ?_) ht
  subst ex
  obtain rfl : u = Value.ref a := rx
  refine getmeth_ok I1 ea c hm l ?_
  exact PySem.W.callWith_K0 (first := [.ref a]) I1.kIn hm.kp (run_fn (us := [.ref a]) (vs := [.ref a]) F hr hb hd hx I1 (.cons rfl .nil) q)
structure Mk (K : PySem.W.Frag) (C f : Addr) : Prop where
  makes : PySem.W.makesIn K C = true
  init : PySem.W.findIn K (.ref C) "__init__" = some (some (.ref f))
  fn : PySem.W.isFn K (.ref f) = true
  kp : PySem.W.keepIn K (.ref C) = true
theorem run_make {pins : List (Addr × Obj)} {σ : St} {H : Hp} {s : Shared} {Q : VK} {us : List Value} {vs : List V} (M : Mk X.K C f) (F : FnOk X.prog X.w X.K X.mg X.base CX k f fd ps sp) (hr : Room (k + 1) X.A) (hb : Binds X.K fd ps ds) (hd : Vals dvs ds)
    (hx : Passes CX X E) (I : Inv X pins σ H s) (r : Vals vs us)
    (h : ∀ x dx, H x = none → H dx = none → dx ≠ x → sp (.ref x :: (vs ++ dvs)) (upd (upd H dx (.own x)) x (.ins C dx [])) (fun v H2 => v = .non ∧ Q (.ref x) H2) E) :
    wpAny (model X.prog X.w) X.A (call (.ref C) us) (EP X pins σ Q) X.xe s := by
  have hq := h (s.heap.objs.size + 1) s.heap.objs.size (I.hok.fresh (Nat.le_succ _)) (I.hok.fresh (Nat.le_refl _)) (Nat.ne_of_lt (Nat.lt_succ_self _))
  have I2 := Inv.made (C := C) I
  have r2 : Vals (V.ref (s.heap.objs.size + 1) :: (vs ++ dvs)) (Value.ref (s.heap.objs.size + 1) :: (us ++ ds)) := .cons rfl (r.append hd)
  have hl : (Value.ref (s.heap.objs.size + 1) :: us ++ ds).length = ps.length := by
    have e := r2.length
    rw [F.len _ _ _ _ hq] at e
    exact e.symm
  refine wpAny_call (make_map (f := f) I.kIn M.makes M.init (beq_iff_eq.mp M.fn) (codeAny_mono (F.run _ X.stack _ _ ⟨Value.ref (s.heap.objs.size + 1) :: us, []⟩ (Value.ref (s.heap.objs.size + 1) :: (us ++ ds)) _ _ E (hr.make C us [])
    (I2.env0.make C us []) (hb _ (Value.ref (s.heap.objs.size + 1) :: us) I2.kIn hl) r2 hq) fun r s' hq' => ?_))
  cases r with
  | error e => exact hx pins σ _ _ e s' I2 hq'
  | ok fl =>
    cases fl with
    | ret u =>
      obtain ⟨v, H', I3, rv, ev, q3⟩ := I2.after hq'
      subst ev
      exact ⟨rv, ⟨V.ref (s.heap.objs.size + 1), H', I3, rfl, q3⟩⟩
    | next => exact False.elim hq'
    | brk => exact False.elim hq'
    | cont => exact False.elim hq'
theorem pe_make (M : Mk X.K C f) (F : FnOk X.prog X.w X.K X.mg X.base CX k f fd ps sp) (hr : Room (k + 1) X.A) (hg : Gl X x) (hm : X.mg x = some (.ref C)) (hb : Binds X.K fd ps ds) (hd : Vals dvs ds) (hx : Passes CX X E)
    (ha : PA X (e :: es) t) (hdb : (x == ("__debug__" : Str)) = false := by decide) (he : starEach (e :: es) X.env = (false, eval e X.env) :: starEach es X.env := by rfl) (hpl : (backTo pos (starEach es X.env)).any (·.1) = false := by rfl) :
    PE X (.Call (.Name x p) (e :: es) [] pos) (tMake C sp dvs E t) := by
  intro pins s σ H Q I h
  refine wpAny_Call_Name_kw (ld_glob I hg hm ?_ hdb)
  refine PySem.W.callWith_K (h₀ := X.base) I.ok.mod.kin M.kp (thn (ha pos pins s σ H _ I h) fun us s1 ⟨vs, H1, I1, r, q⟩ => ⟨I1.kIn, ?_⟩) he hpl
  exact run_make M F hr hb hd hx I1 r q
end
structure FnScope (N P : List Str) (sc : Scope) : Prop where
  kind : sc.kind = .function
  co : sc.isCoroutine = false
  gen : sc.isGenerator = false
  nd : N.Nodup
  pre : N.take P.length = P
  par : ∀ x ∈ P, sc.names.lookup x = some .local ∨ sc.names.lookup x = some .cell
  nofree : ∀ y ∈ sc.names, y.2 ≠ .free
theorem bindL_out {kindOf : Str → Option NameKind} {x : Str} : ∀ {binds : List (Str × Value)} {m : Str → Option Value}, (∀ v, (x, v) ∉ binds) → bindL kindOf binds m x = m x
  | [], _, _ => rfl
  | (n, v) :: r, m, h => by
    unfold bindL
    rw [bindL_out fun w hw => h w (List.mem_cons_of_mem _ hw)]
    split
    · have : x ≠ n := by rintro rfl; exact h v List.mem_cons_self
      simp [this]
    · rfl
theorem bindC_out {kindOf : Str → Option NameKind} {x : Str} : ∀ {binds : List (Str × Value)} {m : Str → Option Value}, (∀ v, (x, v) ∉ binds) → bindC kindOf binds m x = m x
  | [], _, _ => rfl
  | (n, v) :: r, m, h => by
    unfold bindC
    rw [bindC_out fun w hw => h w (List.mem_cons_of_mem _ hw)]
    split
    · rfl
    · have : x ≠ n := by rintro rfl; exact h v List.mem_cons_self
      simp [this]
theorem bindL_get {kindOf : Str → Option NameKind} {x : Str} {v : Value} : ∀ {P : List Str} {vs : List Value} {i : Nat} {m : Str → Option Value}, P.Nodup → P[i]? = some x → vs[i]? = some v → kindOf x = some .local →
    bindL kindOf (P.zip vs) m x = some v
  | [], _, _, _, _, h, _, _ => by simp at h
  | _ :: _, [], _, _, _, _, h, _ => by simp at h
  | p :: P, w :: vs, 0, m, nd, h1, h2, hk => by
    simp at h1 h2; subst h1; subst h2
    show bindL kindOf ((p, w) :: P.zip vs) m p = _
    unfold bindL
    rw [bindL_out fun v hv => (List.nodup_cons.mp nd).1 (List.of_mem_zip hv).1, if_pos hk]
    simp
  | p :: P, w :: vs, i + 1, m, nd, h1, h2, hk => by
    show bindL kindOf ((p, w) :: P.zip vs) m x = _
    unfold bindL
    exact bindL_get (i := i) (List.nodup_cons.mp nd).2 (by simpa using h1) (by simpa using h2) hk
theorem bindC_get {kindOf : Str → Option NameKind} {x : Str} {v : Value} : ∀ {P : List Str} {vs : List Value} {i : Nat} {m : Str → Option Value}, P.Nodup → P[i]? = some x → vs[i]? = some v → kindOf x ≠ some .local →
    bindC kindOf (P.zip vs) m x = some v
  | [], _, _, _, _, h, _, _ => by simp at h
  | _ :: _, [], _, _, _, _, h, _ => by simp at h
  | p :: P, w :: vs, 0, m, nd, h1, h2, hk => by
    simp at h1 h2; subst h1; subst h2
    show bindC kindOf ((p, w) :: P.zip vs) m p = _
    unfold bindC
    rw [bindC_out fun v hv => (List.nodup_cons.mp nd).1 (List.of_mem_zip hv).1, if_neg hk]
    simp
  | p :: P, w :: vs, i + 1, m, nd, h1, h2, hk => by
    show bindC kindOf ((p, w) :: P.zip vs) m x = _
    unfold bindC
    exact bindC_get (i := i) (List.nodup_cons.mp nd).2 (by simpa using h1) (by simpa using h2) hk
def start (N : List Str) (vs : List V) : St := vs.map some ++ List.replicate (N.length - vs.length) none
def cxOf (CX : CXT) (P : Program) (w : World) (K : PySem.W.Frag) (mg : Str → Option Value) (base : Heap) (N : List Str) (qual : Str) (scope : Scope) (f : Addr) (cd : Value) (A : Around) (outer : List Env) (s : Shared) (H : Hp) (E : XK) : Cx where
  prog := P
  w := w
  K := K
  mg := mg
  base := base
  A := A.deeper (envOfC qual scope s.heap.objs.size f cd)
  N := N
  s₀ := s
  H₀ := H
  env := envOfC qual scope s.heap.objs.size f cd
  outer := outer
  stack := envOfC qual scope s.heap.objs.size f cd :: outer
  ex := []
  calm := true
  fn := fun _ => true
  pn := []
  xe := fun e s' => wpAny (model P w) (A.deeper (envOfC qual scope s.heap.objs.size f cd)) (leaving (envOfC qual scope s.heap.objs.size f cd) e) (fun _ s'' => CX outer H s E e s'') (fun e' s'' => CX outer H s E e' s'') s'
theorem cell_has {sc : Scope} {n : Nat} {x : Str} (h : sc.names.lookup x = some .cell) : ∃ c, (cellsFrom n sc.names []).lookup x = some c := by
  have q := PySem.W.cellsFrom_some sc.names n [] (.inl h)
  exact Option.isSome_iff_exists.mp q
theorem inv_start {CX : CXT} {P : Program} {w : World} {K : PySem.W.Frag} {mg : Str → Option Value} {base : Heap} {N ps : List Str} {qual : Str} {scope : Scope} {f : Addr} {cd : Value} {A : Around} {outer : List Env} {s s1 : Shared} {H : Hp} {E : XK} {us : List Value} {vs : List V}
    (S : FnScope N ps scope) (hd : A.handled = none) (e0 : Env0 P w K mg base A outer s H) (hl : vs.length = ps.length) (r : Vals vs us)
    (x : InCallC s s.heap.objs.size (bindL (envOfC qual scope s.heap.objs.size f cd).kindOf (ps.zip us) fun _ => none) (cellsFrom (s.heap.objs.size + 1) scope.names []) (bindC (envOfC qual scope s.heap.objs.size f cd).kindOf (ps.zip us) fun _ => none) s1) :
    Inv (cxOf CX P w K mg base N qual scope f cd A outer s H E) [] (start N vs) H s1 := by
  have hpl : ps.length ≤ N.length := by have := congrArg List.length S.pre; rw [List.length_take] at this; omega
  obtain ⟨h1, tk, rfl, hk⟩ := x.done
  have noA : ∀ b : Addr, b ∉ (cxOf CX P w K mg base N qual scope f cd A outer s H E).ex := fun b z => absurd (show b ∈ ([] : List Addr) from z) (by simp)
  refine ⟨⟨e0.mod, S.kind, rfl, rfl, Nat.le_refl _, fun y z c h1 h2 => ?_, fun y hy => ?_, fun y c _ h => ?_, fun _ => hd, Around.frames_deeper e0.frames, .inr ⟨rfl, rfl⟩, fun b z => absurd z (noA b), e0.bs, e0.bsz, fun b _ _ => noA b, fun b z => absurd z (noA b), e0.funs, e0.frf⟩,
    rfl, e0.bare, Un.kept hk, ⟨_, x.toInCall.ns, fun i y v h1 h2 h3 => ?_⟩, fun y c h => ⟨_, x.cell y c h⟩, e0.hok.fresh (Nat.le_refl _), fun y c h => ?_, fun p hp => absurd (show p ∈ ([] : List (Addr × Obj)) from hp) (by simp), e0.hok.kept hk, ?_⟩
  · exact name_of_addr x.apart (PySem.mem_of_lookup h1) (PySem.mem_of_lookup h2)
  · have hy : scope.names.lookup y = some .cell ∨ scope.names.lookup y = some .free := hy
    rcases hy with hy | hy
    · exact cell_has hy
    · exact absurd rfl (S.nofree _ (PySem.mem_of_lookup hy))
  · exact Nat.le_of_lt (x.above y c (PySem.mem_of_lookup h))
  · have hi : i < vs.length := by
      unfold start at h2
      by_cases hi : i < vs.length
      · exact hi
      · rw [List.getElem?_append_right (by simpa using hi)] at h2
        rw [List.getElem?_replicate] at h2
        split at h2 <;> cases h2
    have ha : vs[i]? = some v := by
      unfold start at h2
      rw [List.getElem?_append_left (by simpa using hi), List.getElem?_map] at h2
      cases e : vs[i]? with
      | none => rw [e] at h2; cases h2
      | some a => rw [e] at h2; cases h2; rfl
    obtain ⟨u, hu, rv⟩ := r.get ha
    have hp : ps[i]? = some y := by
      rw [← S.pre, List.getElem?_take_of_lt (by omega)]; exact h1
    have ndP : ps.Nodup := by rw [← S.pre]; exact S.nd.sublist (List.take_sublist _ _)
    refine ⟨u, rv, ?_⟩
    rcases S.par y (List.mem_of_getElem? hp) with k | k
    · exact .inl ⟨k, bindL_get ndP hp hu k⟩
    · obtain ⟨c, e⟩ := cell_has (n := s.heap.objs.size + 1) k
      refine .inr ⟨.inl k, c, e, ?_⟩
      have q := x.cell y c e
      rw [bindC_get ndP hp hu (by show scope.names.lookup y ≠ _; rw [k]; decide)] at q
      exact q
  · exact e0.hok.fresh (Nat.le_of_lt (x.above y c (PySem.mem_of_lookup h)))
  · unfold start
    show _ = N.length
    rw [List.length_append, List.length_map, List.length_replicate]
    omega
theorem fn_of {CX : CXT} {P : Program} {w : World} {K : PySem.W.Frag} {mg : Str → Option Value} {base : Heap} {k : Nat} {f : Addr} {name qual : Str} {params : Arguments} {body : List Stmt} {scope : Scope} {dV kV doc pm cdv ct oc : Value} {an od : Option Addr}
    {osl : Array (Option Value)} {N ps : List Str} {sp : Sp} (lk : K.lookup f = some ⟨oc, od, .func (PySem.W.fnOf name qual params body scope dV kV doc pm an cdv ct), osl⟩) (hcd : PySem.W.codeIn K cdv qual = true) (S : FnScope N ps scope)
    (len : ∀ vs H Q E, sp vs H Q E → vs.length = ps.length)
    (hbody : ∀ (A : Around) (outer : List Env) (s : Shared) (H : Hp) (vs : List V) (Q : VK) (E : XK), Room k (A.deeper (envOfC qual scope s.heap.objs.size f cdv)) → sp vs H Q E →
      ∃ t, PSs (cxOf CX P w K mg base N qual scope f cdv A outer s H E) body t ∧ t { nx := fun _ H' => Q .non H', rt := Q } (start N vs) H) :
    FnOk P w K mg base CX (k + 1) f (PySem.W.fnOf name qual params body scope dV kV doc pm an cdv ct) ps sp := by
  refine ⟨len, fun A outer s H args us vs Q E hr e0 hb r hsp => ?_⟩
  have hl := len _ _ _ _ hsp
  have KX : K.In s.heap := e0.mod.kin.keeps fun b o e => (e0.bs b o e).1
  have lim : s.heap.NoLimit := e0.mod.nolimit.keeps fun b o e => (e0.bs b o e).1
  have hkind : ∀ y ∈ ps.zip us, scope.names.lookup y.1 = some .local ∨ (scope.names.lookup y.1 = some .cell ∧ ((cellsFrom (s.heap.objs.size + 1) scope.names []).lookup y.1).isSome = true) := fun ⟨n, v⟩ hy => by
    rcases S.par n (List.of_mem_zip hy).1 with q | q
    · exact .inl q
    · exact .inr ⟨q, PySem.W.cellsFrom_some _ _ _ (.inl q)⟩
  refine codeAny_call_function hr.depth (KX _ _ lk) rfl S.co S.gen rfl (PySem.W.codeRec_of KX hcd) (hb _ _ _ _ ?_)
  refine wpAny_newFunctionEnv_cells S.kind hkind fun env he s1 x => ?_
  subst he
  refine ⟨lim.keeps x.toInCall.keep, codeAny_func ?_⟩
  obtain ⟨t, ht, hq⟩ := hbody A outer s H vs Q E (hr.deeper _) hsp
  have I : Inv (cxOf CX P w K mg base N qual scope f cdv A outer s H E) [] (start N vs) H s1 := inv_start S hr.hd e0 hl r x
  refine wpAny_mono (ht [] s1 (start N vs) H _ I hq) (fun fl s' hs => ?_) fun e s' hs => hs
  have fin : ∀ {σ' : St} {H' : Hp} {v : V} {u : Value}, Inv (cxOf CX P w K mg base N qual scope f cdv A outer s H E) [] σ' H' s' → RelV v u → Q v H' → CE outer P w H s Q u s' :=
    fun {σ' H' v u} J rv q => ⟨v, H', J.os, J.bare, J.base, J.hok, rv, q⟩
  cases fl with
  | ret u =>
    obtain ⟨v, σ', H', J, rv, q⟩ := hs
    exact fin J rv q
  | next =>
    obtain ⟨σ', H', J, q⟩ := hs
    exact fin (v := V.non) (u := Value.none) J rfl q
  | brk =>
    obtain ⟨_, _, _, q⟩ := hs
    exact False.elim q
  | cont =>
    obtain ⟨_, _, _, q⟩ := hs
    exact False.elim q
end L2
namespace L2
open PySem PySem.Spec PyProof.Rows
section
variable {X : Cx} {x : Str} {p pos : Pos} {e : Expr} {es : List Expr} {t : TA} {id T : String} {r : List V → Hp → VK → Prop}
def tCB (r : List V → Hp → VK → Prop) (t : TA) : TE := fun σ H Q => t σ H fun vs H1 => r vs H1 Q
theorem pe_callB (hc : CallR X (.builtin id) r) (hg : Gl X x) (hm : X.mg x = none) (hv : bootBuiltins x = some (.builtin id)) (ha : PA X (e :: es) t) (hn : x ≠ "__name__" := by decide) (hdb : (x == ("__debug__" : Str)) = false := by decide)
    (he : starEach (e :: es) X.env = (false, eval e X.env) :: starEach es X.env := by rfl) (hpl : (backTo pos (starEach es X.env)).any (·.1) = false := by rfl) : PE X (.Call (.Name x p) (e :: es) [] pos) (tCB r t) := by
  intro pins s σ H Q I h
  refine wpAny_Call_Name_kw (ld_blt I hg hm hv ?_ hn hdb)
  exact PyProof.Rows.callWith_builtin1 (thn (ha pos pins s σ H _ I h) fun us s1 ⟨vs, H1, I1, r1, q1⟩ => hc pins s1 σ H1 vs us Q I1 r1 q1) he hpl
theorem pe_callTy (hc : CallR X (.type T) r) (hg : Gl X x) (hm : X.mg x = none) (hv : bootBuiltins x = some (.type T)) (ha : PA X (e :: es) t) (hn : x ≠ "__name__" := by decide) (hdb : (x == ("__debug__" : Str)) = false := by decide)
    (he : starEach (e :: es) X.env = (false, eval e X.env) :: starEach es X.env := by rfl) (hpl : (backTo pos (starEach es X.env)).any (·.1) = false := by rfl) : PE X (.Call (.Name x p) (e :: es) [] pos) (tCB r t) := by
  intro pins s σ H Q I h
  refine wpAny_Call_Name_kw (ld_blt I hg hm hv ?_ hn hdb)
  exact PyProof.Rows.callWith_type1 (thn (ha pos pins s σ H _ I h) fun us s1 ⟨vs, H1, I1, r1, q1⟩ => hc pins s1 σ H1 vs us Q I1 r1 q1) he hpl
end
end L2
namespace HT
open PySem PyProof.Rows
section
open PySem.SeqAt
open PySem.AutoSeq1 (wpAny_loadPart')
open PySem.MeetsSeq PySem.MeetsSeq2 PySem.MeetsSeq3
end
end HT
namespace L2
open PySem PySem.Spec PyProof.Rows
end L2
namespace L2
open PySem PySem.Spec PyProof.Rows
def ixN (n : Nat) (i : Int) : Option Nat := if 0 ≤ i then (if i < n then some i.toNat else none) else if -(n : Int) ≤ i then some (i + n).toNat else none
def atI {α : Type} (xs : List α) (i : Int) : Option α := (ixN xs.length i).bind fun j => xs[j]?
theorem ixN_seq {n : Nat} {i : Int} {j : Nat} (h : ixN n i = some j) : seqIndex? i n = some j ∧ j < n ∧ -(n : Int) ≤ i ∧ i < n := by
  unfold ixN at h
  by_cases h0 : 0 ≤ i
  · rw [if_pos h0] at h
    by_cases h1 : i < n
    · rw [if_pos h1] at h
      have e : i.toNat = j := Option.some.inj h
      exact ⟨by rw [seqIndex_of h0 h1, e], by omega, by omega, h1⟩
    · rw [if_neg h1] at h; cases h
  · rw [if_neg h0] at h
    by_cases h1 : -(n : Int) ≤ i
    · rw [if_pos h1] at h
      have e : (i + n).toNat = j := Option.some.inj h
      exact ⟨by rw [seqIndex_neg (by omega) h1, e], by omega, h1, by omega⟩
    · rw [if_neg h1] at h; cases h
theorem atI_get {α : Type} {xs : List α} {i : Int} {v : α} (h : atI xs i = some v) : ∃ j, seqIndex? i xs.length = some j ∧ xs[j]? = some v ∧ j < xs.length ∧ -(xs.length : Int) ≤ i ∧ i < xs.length := by
  unfold atI at h
  cases e : ixN xs.length i with
  | none => rw [e] at h; cases h
  | some j =>
    rw [e] at h
    obtain ⟨h1, h2, h3, h4⟩ := ixN_seq e
    exact ⟨j, h1, h, h2, h3, h4⟩
theorem atI_nat {α : Type} {xs : List α} {j : Nat} {v : α} (h : xs[j]? = some v) : atI xs (j : Int) = some v := by
  have hj : j < xs.length := (List.getElem?_eq_some_iff.mp h).1
  have e : ixN xs.length (j : Int) = some j := by
    unfold ixN
    rw [if_pos (by omega), if_pos (by omega)]; simp
  unfold atI; rw [e]; exact h
def PlainIx (b : Expr) : Prop := ∀ o i, subscripted b false o i = operate [o, i] (getItem o i)
def IxR (X : Cx) (r : R2) : Prop :=
  ∀ (value slice : Expr) (pins : List (Addr × Obj)) (s : Shared) (σ : St) (H : Hp) (x y : V) (v u : Value) (Q : VK), Inv X pins σ H s → RelV x v → RelV y u → r x y H Q →
    subscripted slice false v u = operate [v, u] (getItem v u) → wpAny (model X.prog X.w) X.A (subscriptTail value slice v u) (EP X pins σ Q) X.xe s
def MtR (X : Cx) (id : String) (r : V → List V → Hp → VK → Prop) : Prop :=
  ∀ (pins : List (Addr × Obj)) (s : Shared) (σ : St) (H : Hp) (x : V) (xs : List V) (v : Value) (us : List Value) (Q : VK), Inv X pins σ H s → RelV x v → Vals xs us → r x xs H Q →
    wpAny (model X.prog X.w) X.A (call (.builtin id) (v :: us)) (EP X pins σ Q) X.xe s
section
variable {X : Cx} {a b : Expr} {ta tb : TE} {pos : Pos}
theorem IxR.or {r r' : R2} (h : IxR X r) (h' : IxR X r') : IxR X (fun x y H Q => r x y H Q ∨ r' x y H Q) := by
  intro value slice pins s σ H x y v u Q I rx ry q hs
  rcases q with q | q
  · exact h value slice pins s σ H x y v u Q I rx ry q hs
  · exact h' value slice pins s σ H x y v u Q I rx ry q hs
theorem pe_ix {r : R2} (hr : IxR X r) (ha : PE X a ta) (hb : PE X b tb) (hs : PlainIx b) : PE X (.Subscript a b pos) (tOp r ta tb) := by
  intro pins s σ H Q I h
  exact Subscript_ (binT ha hb I h fun v u s2 x y H2 I2 rx ry q => hr a b pins s2 σ H2 x y v u Q I2 rx ry q (hs _ _))
def rIxL (K : PySem.W.Frag) : R2 := fun x y H Q => ∃ p xs i v, x = .ref p ∧ y = .int i ∧ SqL K H p xs ∧ atI xs i = some v ∧ Q v H
def rIxT (K : PySem.W.Frag) : R2 := fun x y H Q => ∃ p xs i v, x = .ref p ∧ y = .int i ∧ SqT K H p xs ∧ atI xs i = some v ∧ Q v H
def rIxS : R2 := fun x y H Q => ∃ z i c, x = .str z ∧ y = .int i ∧ z.length ≤ sizeLine ∧ atI z.cps.toList i = some c ∧ Q (.str ⟨#[c]⟩) H
theorem ix_list : IxR X (rIxL X.K) := by
  intro value slice pins s σ H x y v u Q I rx ry h hs
  obtain ⟨p, xs, i, z, rfl, rfl, hq, he, q⟩ := h
  cases rx
  obtain ⟨t, rfl⟩ := ry
  obtain ⟨its, r, pl, hz⟩ := I.list hq
  obtain ⟨j, h1, h2, h3, h4, h5⟩ := atI_get he
  obtain ⟨w, ew, rw'⟩ := r.get h2
  have hl := r.length
  have hn := line63
  have fin : EP X pins σ Q w s := ⟨z, H, I, rw', q⟩
  by_cases h0 : 0 ≤ i
  · have hj : i.toNat = j := by
      rw [seqIndex_of h0 h5] at h1
      exact Option.some.inj h1
    exact item_listR pl.isList h0 (by omega) (by rw [hj]; simpa using ew) fin hs
  · have hj : (i + (its.toArray.size : Int)).toNat = j := by
      rw [seqIndex_neg (by omega) h4] at h1
      rw [List.size_toArray, ← hl]
      exact Option.some.inj h1
    exact subscriptTail_builtinR (x := w) pl.isList.typeIs slot_list_getitem.lookup
      (wpAny_getItem_list_neg (Q := fun r s' => r = w ∧ EP X pins σ Q r s') pl.isList (by omega) (by rw [List.size_toArray] <;> omega) (by omega) (by rw [hj]; simpa using ew) ⟨rfl, fin⟩) hs
theorem ix_tup : IxR X (rIxT X.K) := by
  intro value slice pins s σ H x y v u Q I rx ry h hs
  obtain ⟨p, xs, i, z, rfl, rfl, hq, he, q⟩ := h
  cases rx
  obtain ⟨t, rfl⟩ := ry
  obtain ⟨its, r, pl, hz⟩ := I.tuple hq
  obtain ⟨j, h1, h2, h3, h4, h5⟩ := atI_get he
  obtain ⟨w, ew, rw'⟩ := r.get h2
  have hl := r.length
  have hn := line63
  have fin : EP X pins σ Q w s := ⟨z, H, I, rw', q⟩
  exact subscriptTail_builtinR (x := w) pl.typeIs slot_tuple_getitem.lookup
    (getItem_tuple (j := j) (Q := fun r s' => r = w ∧ EP X pins σ Q r s') pl (by omega) (by omega) (by rw [List.size_toArray, ← hl]; exact h1) (by simpa using ew) ⟨rfl, fin⟩) hs
theorem ix_str : IxR X rIxS := by
  intro value slice pins s σ H x y v u Q I rx ry h hs
  obtain ⟨z, i, c, rfl, rfl, hz, he, q⟩ := h
  obtain ⟨t, rfl⟩ := rx
  obtain ⟨t', rfl⟩ := ry
  obtain ⟨j, h1, h2, h3, h4, h5⟩ := atI_get he
  have hl : z.cps.toList.length = z.length := by simp [Str.length]
  rw [hl] at h1 h4 h5
  have hn := line63
  exact tail_any (typeIs_str s z t) slot_str_getitem.lookup (getItem_str (c := c) (by
    have e1 : decide (i < -(2 ^ 63 : Int)) = false := decide_eq_false (by omega)
    have e2 : decide (i ≥ 2 ^ 63) = false := decide_eq_false (by omega)
    rw [e1, e2, Bool.or_false]) (by rw [h1]; simpa using h2) ⟨.str ⟨#[c]⟩, H, I.tok _, ⟨_, rfl⟩, q⟩) hs
def rIx (K : PySem.W.Frag) : R2 := fun x y H Q => rIxL K x y H Q ∨ rIxT K x y H Q ∨ rIxS x y H Q
theorem ix_seq : IxR X (rIx X.K) := ix_list.or (ix_tup.or ix_str)
def flatV : V → Bool
  | .non => true
  | .bl _ => true
  | .int _ => true
  | .str _ => true
  | _ => false
def eqV : V → V → Bool
  | .non, .non => true
  | .bl a, .bl b => a == b
  | .bl a, .int b => (if a then 1 else 0) == b
  | .int a, .bl b => a == (if b then 1 else 0)
  | .int a, .int b => a == b
  | .str a, .str b => a == b
  | _, _ => false
theorem eqAt_V {A : Around} {s : Shared} {y x : V} {u v : Value} (ry : RelV y u) (rx : RelV x v) (fy : flatV y = true) (fx : flatV x = true) : SeqAt.EqAt A s u v (eqV y x) := by
  cases y with
  | non =>
    cases ry
    cases x with
    | non => cases rx; exact SeqAt.EqAt.same _
    | bl b => cases rx; exact SeqAt.EqAt.none_bool b
    | int b => obtain ⟨t, rfl⟩ := rx; exact SeqAt.EqAt.none_int b t
    | str b => obtain ⟨t, rfl⟩ := rx; exact SeqAt.EqAt.none_str b t
    | _ => exact absurd (show false = true from fx) Bool.false_ne_true
  | bl a =>
    cases ry
    cases x with
    | non => cases rx; exact SeqAt.EqAt.bool_none a
    | bl b => cases rx; exact SeqAt.EqAt.bool_bool a b
    | int b => obtain ⟨t, rfl⟩ := rx; exact SeqAt.EqAt.bool_int a b t
    | str b => obtain ⟨t, rfl⟩ := rx; exact SeqAt.EqAt.bool_str a b t
    | _ => exact absurd (show false = true from fx) Bool.false_ne_true
  | int a =>
    obtain ⟨t', rfl⟩ := ry
    cases x with
    | non => cases rx; exact SeqAt.EqAt.int_none a t'
    | bl b => cases rx; exact SeqAt.EqAt.int_bool a t' b
    | int b => obtain ⟨t, rfl⟩ := rx; exact SeqAt.EqAt.int_int a t' b t
    | str b => obtain ⟨t, rfl⟩ := rx; exact SeqAt.EqAt.int_str a t' b t
    | _ => exact absurd (show false = true from fx) Bool.false_ne_true
  | str a =>
    obtain ⟨t', rfl⟩ := ry
    cases x with
    | non => cases rx; exact SeqAt.EqAt.str_none a t'
    | bl b => cases rx; exact SeqAt.EqAt.str_bool a t' b
    | int b => obtain ⟨t, rfl⟩ := rx; exact SeqAt.EqAt.str_int a t' b t
    | str b => obtain ⟨t, rfl⟩ := rx; exact SeqAt.EqAt.str_str a t' b t
    | _ => exact absurd (show false = true from fx) Bool.false_ne_true
  | _ => exact absurd (show false = true from fy) Bool.false_ne_true
theorem call_len_seq : CallR X (.builtin "len") (fun xs H Q => ∃ p ys, xs = [.ref p] ∧ (SqL X.K H p ys ∨ SqT X.K H p ys) ∧ Q (.int ys.length) H) := by
  intro pins s σ H xs us Q I r h
  obtain ⟨p, ys, rfl, hq, q⟩ := h
  obtain ⟨u, rfl, rx⟩ := vals1 r
  cases rx
  have hn := line63
  rcases hq with hq | hq
  · obtain ⟨its, r', pl, hz⟩ := I.list hq
    have hlen := r'.length
    exact Calls.call_len_list pl.isList (by simp only [List.size_toArray] <;> omega) ⟨.int ys.length, H, I.tok _, ⟨s.toks + 1, by rw [List.size_toArray, hlen]⟩, q⟩
  · obtain ⟨its, r', pl, hz⟩ := I.tuple hq
    have hlen := r'.length
    exact len_tuple pl (by simp only [List.size_toArray] <;> omega) ⟨.int ys.length, H, I.tok _, ⟨s.toks + 1, by rw [List.size_toArray, hlen]⟩, q⟩
theorem call_len_str : CallR X (.builtin "len") (fun xs H Q => ∃ z, xs = [.str z] ∧ z.length ≤ sizeLine ∧ Q (.int z.length) H) := by
  intro pins s σ H xs us Q I r h
  obtain ⟨z, rfl, hz, q⟩ := h
  obtain ⟨u, rfl, t, rfl⟩ := vals1 r
  have hn := line63
  exact len_str (by omega) ⟨.int z.length, H, I.tok _, ⟨_, rfl⟩, q⟩
theorem CallR.or {f : Value} {r r' : List V → Hp → VK → Prop} (h : CallR X f r) (h' : CallR X f r') : CallR X f (fun xs H Q => r xs H Q ∨ r' xs H Q) := by
  intro pins s σ H xs us Q I rs q
  rcases q with q | q
  · exact h pins s σ H xs us Q I rs q
  · exact h' pins s σ H xs us Q I rs q
theorem call_list_of : CallR X (.type "list") (fun xs H Q => ∃ p ys, xs = [.ref p] ∧ (SqL X.K H p ys ∨ SqT X.K H p ys) ∧ ∀ l, H l = none → Q (.ref l) (upd H l (.lst ys))) := by
  intro pins s σ H xs us Q I r h
  obtain ⟨p, ys, rfl, hq, q⟩ := h
  obtain ⟨u, rfl, rx⟩ := vals1 r
  cases rx
  have fin : ∀ (its : List Value), Vals ys its → ys.length ≤ sizeLine → ∀ (h' : Heap) (c' : Nat), (∀ b o', s.heap.get? b = some o' → h'.get? b = some o') →
      h'.get? s.heap.objs.size = some { cls := .type "list", dict := none, data := .seq its.toArray c', slots := #[] } → EP X pins σ Q (.ref s.heap.objs.size) { s with heap := h' } := fun its r' hz h' c' kp e =>
    ⟨.ref s.heap.objs.size, _, I.laid (t' := s.toks) kp (Nat.le_refl _) (show ObjOk X.prog X.w _ h' _ (.lst ys) from ⟨hz, its, c', r', e⟩), rfl, q _ (I.hok.fresh (Nat.le_refl _))⟩
  rcases hq with hq | hq
  · obtain ⟨its, r', pl, hz⟩ := I.list hq
    have hlen := r'.length
    obtain ⟨o, ho, hc, n, hd⟩ := pl.isList
    exact call_list_seq p (.inl rfl) ho hc hd (fun h' c' kp e => fin its r' hz h' c' kp e) (by simp only [List.size_toArray] <;> omega)
  · obtain ⟨its, r', pl, hz⟩ := I.tuple hq
    have hlen := r'.length
    obtain ⟨o, ho, hc, n, hd⟩ := pl
    exact call_list_seq p (.inr rfl) ho hc hd (fun h' c' kp e => fin its r' hz h' c' kp e) (by simp only [List.size_toArray] <;> omega)
def tyV (K : PySem.W.Frag) (T : String) (x : V) (H : Hp) : Prop := match x with
  | .str _ => T = "str"
  | .int _ => T = "int"
  | .ref p => (T = "list" ∧ ∃ xs, SqL K H p xs) ∨ (T = "tuple" ∧ ∃ o, K.lookup p = some o ∧ o.cls = .type "tuple" ∧ o.dict = none) ∨
      (T = "dict" ∧ ((∃ kvs, H p = some (.dK kvs)) ∨ ∃ kvs, H p = some (.dT kvs))) ∨ (T = "set" ∧ ∃ S n, H p = some (.set S n))
  | _ => False
theorem tyV_is {pins : List (Addr × Obj)} {σ : St} {H : Hp} {s : Shared} {T : String} {x : V} {v : Value} (I : Inv X pins σ H s) (r : RelV x v) (ty : tyV X.K T x H) :
    s.TypeIs v T ∧ ∀ a, v = .ref a → ∃ ob, s.heap.get? a = some ob ∧ ob.dict = none := by
  cases x with
  | str z =>
    obtain ⟨t, rfl⟩ := r
    cases (show T = "str" from ty)
    exact ⟨typeIs_str s z t, fun _ e => nomatch e⟩
  | int i =>
    obtain ⟨t, rfl⟩ := r
    cases (show T = "int" from ty)
    exact ⟨typeIs_int s i t, fun _ e => nomatch e⟩
  | ref p =>
    cases r
    rcases ty with ⟨rfl, xs, hq⟩ | ⟨rfl, o, hk, hc, hd⟩ | ⟨rfl, hk⟩ | ⟨rfl, S, n, hk⟩
    · obtain ⟨its, _, pl, _⟩ := I.list hq
      refine ⟨pl.isList.typeIs, fun a e => ?_⟩
      cases e
      obtain ⟨o, n, e, c, hd, _⟩ := pl
      exact ⟨o, e, hd⟩
    · refine ⟨⟨o, I.kIn p o hk, hc⟩, fun a e => ?_⟩
      cases e
      exact ⟨o, I.kIn _ o hk, hd⟩
    · have z : ∃ o, s.heap.get? p = some o ∧ o.ExactDict := by
        rcases hk with ⟨kvs, hk⟩ | ⟨kvs, hk⟩
        · obtain ⟨_, _, _, _, o, _, _, e, ex, _⟩ := I.hok p _ hk
          exact ⟨o, e, ex⟩
        · obtain ⟨_, _, _, _, o, _, _, e, ex, _⟩ := I.hok p _ hk
          exact ⟨o, e, ex⟩
      obtain ⟨o, e, ex⟩ := z
      refine ⟨⟨o, e, ex.1⟩, fun a e2 => ?_⟩
      cases e2
      exact ⟨o, e, ex.2.1⟩
    · obtain ⟨o, _, _, _, e, ex, _⟩ := I.hok p _ hk
      refine ⟨⟨o, e, ex.1⟩, fun a e2 => ?_⟩
      cases e2
      exact ⟨o, e, ex.2.1⟩
  | _ => exact False.elim ty
def tBM0 (K : PySem.W.Frag) (T : String) (r : V → List V → Hp → VK → Prop) (to : TE) : TE := fun σ H Q => to σ H fun x H1 => tyV K T x H1 ∧ r x [] H1 Q
def tBM (K : PySem.W.Frag) (T : String) (r : V → List V → Hp → VK → Prop) (to : TE) (t : TA) : TE := fun σ H Q => to σ H fun x H1 => tyV K T x H1 ∧ t σ H1 fun xs H2 => r x xs H2 Q
variable {o e : Expr} {es : List Expr} {to : TE} {t : TA} {name : Str} {apos cpos : Pos} {T id : String} {r : V → List V → Hp → VK → Prop}
theorem pe_bm0 (pa : PlainAttrs T) (slot : Slot T name id) (hty : typeOf (.builtin id) = pure (.type "method_descriptor")) (hm : MtR X id r) (ho : PE X o to)
    (hbase : attributeBase o name X.env (eval o X.env) = eval o X.env := by rfl) (hline : (apos.endLine == cpos.line) = true := by rfl) : PE X (.Call (.Attribute o name apos) [] [] cpos) (tBM0 X.K T r to) := by
  intro pins s σ H Q I h
  refine wpAny_Call_method0_late hbase hline (thn (ho pins s σ H _ I h) fun v s1 ⟨x, H1, I1, r1, ty, q1⟩ => ?_)
  obtain ⟨h1, h2⟩ := tyV_is I1 r1 ty
  exact ⟨T, id, pa, slot, hty, h1, h2, Calls.callWith_builtin rfl (PySem.evalArgs_none (hm pins s1 σ H1 x [] v [] Q I1 r1 .nil q1))⟩
theorem pe_bm (pa : PlainAttrs T) (slot : Slot T name id) (hty : typeOf (.builtin id) = pure (.type "method_descriptor")) (hm : MtR X id r) (ho : PE X o to) (ha : PA X (e :: es) t)
    (hbase : attributeBase o name X.env (eval o X.env) = eval o X.env := by rfl)
    (hfew : ((backTo cpos (starEach (e :: es) X.env)).all (fun x => !x.1) && (backToKw cpos (keywordEach [] X.env)).all (fun x => x.1.isSome)
      && decide ((e :: es).length + ([] : List Keyword).length + (if ([] : List Keyword).isEmpty then 0 else 1) < 30)) = true := by rfl)
    (hline : (apos.endLine == cpos.line) = true := by rfl) (hs : starEach (e :: es) X.env = (false, eval e X.env) :: starEach es X.env := by rfl) (hplain : (backTo cpos (starEach es X.env)).any (·.1) = false := by rfl) :
    PE X (.Call (.Attribute o name apos) (e :: es) [] cpos) (tBM X.K T r to t) := by
  intro pins s σ H Q I h
  refine wpAny_Call_method_late hbase hfew hline rfl (thn (ho pins s σ H _ I h) fun v s1 ⟨x, H1, I1, r1, ty, q1⟩ => ?_)
  obtain ⟨h1, h2⟩ := tyV_is I1 r1 ty
  refine ⟨T, id, pa, slot, hty, h1, h2, ?_⟩
  have hA := ha cpos pins s1 σ H1 _ I1 q1
  rw [hs] at hA ⊢
  refine Calls.callWith_builtin (by show (false || (backTo cpos (starEach es X.env)).any (·.1)) = false; rw [hplain] <;> rfl) (Calls.evalArgs_plain ?_)
  exact thn hA fun us s2 ⟨vs, H2, I2, r2, q2⟩ => hm pins s2 σ H2 x vs v us Q I2 r1 r2 q2
end
end L2
namespace L2
open PySem PySem.Spec PyProof.Rows
def MtM (X : Cx) (id : String) (r : V → List V → Hp → VK → Prop) : Prop :=
  ∀ (pins : List (Addr × Obj)) (s : Shared) (σ : St) (H : Hp) (x : V) (xs : List V) (v : Value) (us : List Value) (Q : VK), Inv X pins σ H s → RelV x v → Vals xs us → r x xs H Q →
    wpAny (model X.prog X.w) X.A (call (.builtin id) (v :: us)) (EP X pins σ Q) X.xe s
theorem Vals.one : ∀ {x : V} {us : List Value}, Vals [x] us → ∃ u, us = [u] ∧ RelV x u
  | _, _, .cons r .nil => ⟨_, rfl, r⟩
theorem Vals.zero : ∀ {us : List Value}, Vals [] us → us = []
  | _, .nil => rfl
theorem Vals.dropLast {xs : List V} {us : List Value} (h : Vals xs us) : Vals xs.dropLast us.dropLast := by
  induction h with
  | nil => exact .nil
  | cons r t ih =>
    cases t with
    | nil => exact .nil
    | cons q t' => exact .cons r ih
theorem Vals.rep {xs : List V} {us : List Value} (h : Vals xs us) : ∀ k : Nat, Vals (List.replicate k xs).flatten (List.replicate k us).flatten
  | 0 => .nil
  | k + 1 => by
    rw [List.replicate_succ, List.replicate_succ, List.flatten_cons, List.flatten_cons]
    exact Vals.append h (Vals.rep h k)
theorem erase_last {α : Type} (l : List α) : l.eraseIdx (l.length - 1) = l.dropLast := by
  induction l with
  | nil => rfl
  | cons a r ih =>
    cases r with
    | nil => rfl
    | cons b r =>
      have e : (a :: b :: r).length - 1 = ((b :: r).length - 1) + 1 := by
        have h1 : (a :: b :: r).length = r.length + 2 := rfl
        have h2 : (b :: r).length = r.length + 1 := rfl
        omega
      rw [e, List.eraseIdx_cons_succ, ih]
      all_goals rfl
theorem foldl_rep (its : List Value) : ∀ (k : Nat) (acc : List Value),
    List.foldl (fun x1 x2 => x1 ++ x2) acc.toArray (List.replicate k its.toArray) = (acc ++ (List.replicate k its).flatten).toArray
  | 0, acc => by simp
  | k + 1, acc => by
    have e : acc.toArray ++ its.toArray = (acc ++ its).toArray := by simp
    have e2 : (acc ++ its) ++ (List.replicate k its).flatten = acc ++ (List.replicate (k + 1) its).flatten := by
      rw [List.replicate_succ, List.flatten_cons, List.append_assoc]
    rw [← e2, ← foldl_rep its k (acc ++ its), ← e, List.replicate_succ, List.foldl_cons]
section
variable {X : Cx} {pins : List (Addr × Obj)} {σ : St} {H : Hp} {s : Shared} {l b : Addr} {xs ys zs : List V}
theorem Inv.lset {its its' : List Value} {n : Nat} {f : Array Value → Array Value} {t' : Nat} (I : Inv X pins σ H s) (hH : H l = some (.lst xs))
    (e : s.heap.get? l = some { cls := .type "list", data := .seq its.toArray n }) (hf : f its.toArray = its'.toArray) (hv : Vals ys its') (hz : ys.length ≤ sizeLine) :
    Inv X pins σ (upd H l (.lst ys)) { s with heap := s.heap.update l (Obj.mapSeq f), toks := t' } := by
  have q := PySem.IsL.update e f
  rw [hf] at q
  refine I.write (x := l) (e := l) (by rw [hH]; exact trivial) (.inl rfl) (fun b' u hb hu => (Heap.get?_update_other s.heap (Obj.mapSeq f) (Ne.symm hb)).trans hu) ⟨_, q⟩ ?_
  exact ⟨hz, its', _, hv, q⟩
theorem Inv.lnew {its : List Value} {t' : Nat} (I : Inv X pins σ H s) (hv : Vals ys its) (hz : ys.length ≤ sizeLine) :
    Inv X pins σ (upd H s.heap.objs.size (.lst ys)) { s with heap := s.heap.push { cls := .type "list", data := .seq its.toArray }, toks := t' } :=
  I.laid (fun _ _ q => Heap.get?_push_of_some _ q) (Nat.le_refl _) ⟨hz, its, 0, hv, Heap.get?_push_size _ rfl⟩
theorem Inv.fresh (I : Inv X pins σ H s) : H s.heap.objs.size = none := I.hok.fresh (Nat.le_refl _)
theorem Inv.lstM (I : Inv X pins σ H s) (hH : H l = some (.lst xs)) : xs.length ≤ sizeLine ∧ ∃ (its : List Value) (n : Nat), Vals xs its ∧ xs.length = its.length ∧ s.heap.get? l = some { cls := .type "list", data := .seq its.toArray n } := by
  obtain ⟨z, its, n, r, e⟩ := I.hok l _ hH
  exact ⟨z, its, n, r, r.length, e⟩
theorem notLongL {n : Nat} (h : n ≤ sizeLine) : Builtin.List.listTooLong n = false := by
  unfold Builtin.List.listTooLong
  exact decide_eq_false (by omega)
end
section
variable {X : Cx}
def rAppend : V → List V → Hp → VK → Prop := fun x vs H Q => ∃ l xs y, x = .ref l ∧ vs = [y] ∧ H l = some (.lst xs) ∧ xs.length < sizeLine ∧ Q .non (upd H l (.lst (xs ++ [y])))
theorem mt_append : MtM X "list.append" rAppend := by
  intro pins s σ H x vs v us Q I rx rv h
  obtain ⟨l, xs, y, rfl, rfl, hH, hz, q⟩ := h
  cases rx
  obtain ⟨u, rfl, ru⟩ := rv.one
  obtain ⟨z, its, n, r, hl, e⟩ := I.lstM hH
  refine call_meets F.slot_list_append ⟨_, e, rfl⟩ F.entry_list_append (F.args_list_append_2 _ _) (PySem.list_append l its.toArray n u (by rw [List.size_toArray]; omega)) ⟨e, ?_⟩
  refine ⟨.non, _, I.lset (its' := its ++ [u]) hH e (by simp) (r.append (.cons ru .nil)) ?_, rfl, q⟩
  rw [List.length_append, List.length_singleton]
  omega
def rExtend : V → List V → Hp → VK → Prop := fun x vs H Q => ∃ l b xs zs, x = .ref l ∧ vs = [.ref b] ∧ H l = some (.lst xs) ∧ H b = some (.lst zs) ∧ xs.length + zs.length ≤ sizeLine ∧ Q .non (upd H l (.lst (xs ++ zs)))
theorem mt_extend : MtM X "list.extend" rExtend := by
  intro pins s σ H x vs v us Q I rx rv h
  obtain ⟨l, b, xs, zs, rfl, rfl, hH, hB, hz, q⟩ := h
  cases rx
  obtain ⟨u, rfl, ru⟩ := rv.one
  cases ru
  obtain ⟨z, its, n, r, hl, e⟩ := I.lstM hH
  obtain ⟨z2, its2, n2, r2, hl2, e2⟩ := I.lstM hB
  have hsz : its.toArray.size + its2.toArray.size ≤ sizeLine := by rw [List.size_toArray, List.size_toArray]; omega
  have hlong : ¬ (!its.toArray.isEmpty && Builtin.List.listTooLong (its.toArray.size + its2.toArray.size)) = true := by
    rw [notLongL hsz, Bool.and_false]
    exact Bool.false_ne_true
  refine call_meets F.slot_list_extend ⟨_, e, rfl⟩ F.entry_list_extend (F.args_list_extend_2 _ _)
    (AutoSeq1.list_extend_list_list_0 l its.toArray n b its2.toArray n2 hlong (by rw [List.size_toArray]; omega) (by omega)) ⟨e, e2, ?_⟩
  refine ⟨.non, _, I.lset (its' := its ++ its2) hH e (by simp) (r.append r2) ?_, rfl, q⟩
  rw [List.length_append]
  omega
def rPop : V → List V → Hp → VK → Prop := fun x vs H Q => ∃ l xs y, x = .ref l ∧ vs = [] ∧ H l = some (.lst xs) ∧ xs[xs.length - 1]? = some y ∧ Q y (upd H l (.lst xs.dropLast))
theorem mt_pop : MtM X "list.pop" rPop := by
  intro pins s σ H x vs v us Q I rx rv h
  obtain ⟨l, xs, y, rfl, rfl, hH, hy, q⟩ := h
  cases rx
  have hus := rv.zero
  subst hus
  obtain ⟨z, its, n, r, hl, e⟩ := I.lstM hH
  obtain ⟨u, hu, ru⟩ := r.get hy
  have hy' : its.toArray[its.toArray.size - 1]? = some u := by
    show its.toArray[its.length - 1]? = some u
    rw [← Array.getElem?_toList, ← hl]
    exact hu
  refine call_meets F.slot_list_pop ⟨_, e, rfl⟩ F.entry_list_pop (F.args_list_pop_1 _) (MeetsSeq.list_pop_last l its.toArray n u hy' (by rw [List.size_toArray]; omega)) ⟨e, ?_⟩
  refine ⟨y, _, I.lset (its' := its.dropLast) hH e ?_ r.dropLast ?_, ru, q⟩
  · show its.toArray.eraseIdxIfInBounds (its.toArray.size - 1) = its.dropLast.toArray
    rw [List.size_toArray, List.eraseIdxIfInBounds_toArray, erase_last]
  · rw [List.length_dropLast]
    omega
def rCat : R2 := fun x y H Q => ∃ l b xs zs, x = .ref l ∧ y = .ref b ∧ H l = some (.lst xs) ∧ H b = some (.lst zs) ∧ xs.length + zs.length ≤ sizeLine ∧ ∀ p, H p = none → Q (.ref p) (upd H p (.lst (xs ++ zs)))
theorem op_cat : OpR X (binaryOp .Add) rCat := by
  intro pins s σ H x y v u Q I rx ry h
  obtain ⟨l, b, xs, zs, rfl, rfl, hH, hB, hz, q⟩ := h
  cases rx
  cases ry
  obtain ⟨z, its, n, r, hl, e⟩ := I.lstM hH
  obtain ⟨z2, its2, n2, r2, hl2, e2⟩ := I.lstM hB
  refine PySem.P.add_list e e2 ?_ (by rw [List.size_toArray, List.size_toArray]; omega)
  have ea : its.toArray ++ its2.toArray = (its ++ its2).toArray := by simp
  rw [ea]
  exact ⟨.ref _, _, I.lnew (t' := s.toks) (r.append r2) (by rw [List.length_append]; omega), rfl, q _ I.fresh⟩
def rRep : R2 := fun x y H Q => ∃ l k xs, x = .ref l ∧ y = .int k ∧ H l = some (.lst xs) ∧ -(2 ^ 63) ≤ k ∧ k < 2 ^ 63 ∧ xs.length * k.toNat ≤ sizeLine ∧
  ∀ p, H p = none → Q (.ref p) (upd H p (.lst (List.replicate k.toNat xs).flatten))
theorem len_rep {α : Type} (xs : List α) (k : Nat) : (List.replicate k xs).flatten.length = k * xs.length := by
  induction k with
  | zero => simp
  | succ k ih => rw [List.replicate_succ, List.flatten_cons, List.length_append, ih, Nat.succ_mul, Nat.add_comm]
theorem op_rep : OpR X (binaryOp .Mult) rRep := by
  intro pins s σ H x y v u Q I rx ry h
  obtain ⟨l, k, xs, rfl, rfl, hH, h1, h2, hz, q⟩ := h
  cases rx
  obtain ⟨t, rfl⟩ := ry
  obtain ⟨z, its, n, r, hl, e⟩ := I.lstM hH
  have hlen : its.toArray.size * k.toNat ≤ sizeLine := by rw [List.size_toArray, ← hl]; exact hz
  have hcap : ¬ its.toArray.size * k.toNat > (2 ^ 63 - 1) / 8 := by
    have : (sizeLine : Nat) ≤ (2 ^ 63 - 1) / 8 := by decide
    omega
  have hfit : ¬ (!Builtin.List.listFitsIndex k) = true := by
    rw [fitsIndex_both h1 h2]
    exact Bool.false_ne_true
  have hlong : ¬ Builtin.List.listTooLong (its.toArray.size * k.toNat) = true := by
    rw [notLongL hlen]
    exact Bool.false_ne_true
  have hnew : List.foldl (fun x1 x2 => x1 ++ x2) #[] (List.replicate (if its.toArray.isEmpty = true then 0 else k.toNat) its.toArray) = (List.replicate k.toNat its).flatten.toArray := by
    have f0 : ∀ m : Nat, List.foldl (fun x1 x2 => x1 ++ x2) #[] (List.replicate m its.toArray) = (List.replicate m its).flatten.toArray := fun m => by
      have := foldl_rep its m []
      rw [List.nil_append] at this
      exact this
    rw [f0]
    cases its with
    | nil => simp
    | cons a r' => rw [if_neg (by simp)]
  refine wpAny_binaryOp_repeat_ref (T := "list") (U := "int") (by decide) ⟨_, e, rfl⟩ (fun s' => typeIs_int s' k t) noFill_list_mul F.fills_int_mul F.slot_int_rmul repeat_list F.slot_int_index.lookup
    (call_meets F.slot_int_rmul (typeIs_int s k t) F.entry_int_rmul (F.args_int_rmul_2 _ _) (int___rmul___int_list k t l its.toArray n)
      ⟨e, rfl, ⟨_, e, rfl⟩, call_meets F.slot_list_mul ⟨_, e, rfl⟩ F.entry_list_mul (F.args_list_mul_2 _ _) (AutoListH.list___mul___list_int_3 l its.toArray n k t hfit hcap hlong) ⟨e, ?_⟩⟩)
  rw [hnew]
  exact ⟨.ref _, _, I.lnew (t' := s.toks) (r.rep k.toNat) (by rw [len_rep, Nat.mul_comm]; exact hz), rfl, q _ I.fresh⟩
end
end L2
namespace Att
open PySem PySem.W PySem.Calls PyProof.Rows
theorem ints_of_wellAll {P : Params} {h : Heap} : ∀ (ns : List Int) (vs : List Value), WellAll P h vs (ns.map WData.int) → IntsAre vs ns := by
  intro ns
  induction ns with
  | nil =>
    intro vs w
    rw [List.map_nil] at w
    cases w
    exact .nil
  | cons n ns ih =>
    intro vs w
    rw [List.map_cons] at w
    cases w with
    | cons a b =>
      cases a
      exact .cons _ _ (ih _ b)
theorem script_of {l : OpenLaw} {n : Nat} (hn : l.most = some n) {P : Params} {h : Heap} {args : List WData} {vals : List Value}
    (hpre : l.row.toRowW.claim.pre args = true) (hwl : WellAll P h vals args) :
    ∃ a vs ns, vals = [Value.ref a] ∧ args = [WData.list (ns.map WData.int)] ∧ h.get? a = some { cls := .type "list", data := .seq vs.toArray } ∧ IntsAre vs ns ∧ ns.length ≤ n := by
  have hsh : WShape.hasAll [] args [.list .int] = true := (pre_splitW hpre).1
  have hc : l.pre.holds [] { args := args } = true := (pre_splitW hpre).2
  obtain ⟨d, r, rfl, h1, h2⟩ := hasAllW_cons hsh
  obtain rfl := hasAllW_nil h2
  obtain ⟨xs, rfl, h3⟩ := hasW_list h1
  obtain ⟨ns, rfl⟩ := items_int h3
  have hlen : ns.length ≤ n := by
    unfold OpenLaw.pre at hc
    have h4 : (WTm.not (.lt (.lit (.int (n : Int))) (.len (.arg 0)))).holds [] { args := [.list (ns.map .int)] } = true := by
      have h4 := (holds_andW hc).1
      rw [hn] at h4
      exact h4
    have h5 := condW_of h4 (w_not (w_lt w_lit (w_len_list (w_arg rfl))))
    rw [List.length_map] at h5
    refine Nat.le_of_not_lt fun q => ?_
    have q' : (n : Int) < ((ns.length : Nat) : Int) := by omega
    first
      | (rw [decide_eq_true q'] at h5; exact absurd h5 (by decide))
      | (simp at h5; omega)
  cases hwl with
  | cons w1 w2 =>
    cases w2
    cases w1 with
    | list ho hall => exact ⟨_, _, ns, rfl, rfl, ho, ints_of_wellAll ns _ hall, hlen⟩
theorem post_true (l : OpenLaw) (args : List WData) : l.row.toRowW.claim.post args (.bool true) args = true :=
  postW_of (r := l.row.toRowW) (X := (true == true))
    (show WShape.has [] (.bool true) .bool = true by first | rfl | decide | simp [WShape.has, WShape.arms, WShape.armsAll])
    (show (WTm.eq .res (.lit (.bool true))).value [] { args := args, res := some (.bool true), after := args } = some (.bool (true == true)) from w_eq_bool (w_res rfl) w_lit) rfl
theorem attach_call {l : OpenLaw} {n : Nat} {q : Program} {loose : List Str} {XP : (Str → Option Value) → Heap → Prop} {YP : World → Heap → Prop} {d : DefRec}
    (hn : l.most = some n) (hdf : d.params.defaults = [])
    (call : ∀ (w : World) (s₀ s₁ : Shared) (mg mb : Str → Option Value) (fa : Addr) (o : Obj) (pm cd doc : Value) (a : Addr) (vs : List Value) (ns : List Int),
      Ground q loose [] XP w s₀ mg mb s₁.heap → YP w s₁.heap →
      s₁.heap.get? fa = some o → o.data = .func (docDef d.name d.params d.body d.scope pm cd doc) → s₁.heap.CodeRec cd d.name → mg d.name = some (.ref fa) →
      s₁.heap.get? a = some { cls := .type "list", data := .seq vs.toArray } → IntsAre vs ns → ns.length ≤ n → s₁.gens = #[] →
      codeAny (model l.prog w) callerA (.call (.ref fa) ⟨[.ref a], []⟩) (fun r s' => r = .ok (.ret (.bool true)) ∧ OldK s₁.heap s'.heap ∧ s'.os = s₁.os ∧ AllBare s'.gens) s₁) :
    WalkO q loose XP YP l.row.toRowW d [] (fun f vs => PySem.call f vs) := by
  intro w s₀ s₁ mg mb G Y fa o pm cd doc dV kV ho hd hcd hD hmg hg args vals as hpre hlay hrd hwl hlo
  obtain rfl : dV = .none := Dflts.none hD hdf
  obtain rfl : kV = .none := Dflts.noKw hD
  obtain ⟨a, vs, ns, rfl, rfl, hobj, hints, hlen⟩ := script_of hn hpre hwl
  refine enter_call (codeAny_mono (call w s₀ s₁ mg mb fa o pm cd doc a vs ns G Y ho (fd_plain hd) hcd hmg hobj hints hlen hg) fun r s' hq => ?_)
  obtain ⟨rfl, h2, h3, h4⟩ := hq
  exact ⟨.inl ⟨.bool true, .bool true, [], rfl, fun _ => rfl, .bool true, post_true l _, fun _ => ⟨List.Pairwise.nil, fun _ hm => (nomatch hm)⟩⟩, h2, h3, h4⟩
end Att
namespace L2
open PySem PySem.Spec PyProof.Rows
theorem vals_ints : ∀ {vs : List Value} {ns : List Int}, IntsAre vs ns → Vals (ns.map V.int) vs
  | _, _, .nil => .nil
  | _, _, .cons n t h => .cons ⟨t, rfl⟩ (vals_ints h)
def Only (H : Hp) : Prop := ∀ b, H b = none ∨ ∃ o xs, H b = some (.frz o (.lst xs))
theorem law_call {P : Program} {w : World} {K : PySem.W.Frag} {mg mb : Str → Option Value} {CX : CXT} {k : Nat} {fa a : Addr} {fd : FuncData} {x : Str} {sp : Sp} {s₁ : Shared} {vs : List Value} {ns : List Int}
    (KX : K.In s₁.heap) (hns : s₁.heap.Ns mainGlobals mg) (hb : s₁.heap.Ns builtinsNs mb) (hbb : ∀ x : Str, x ≠ "__name__" → mb x = bootBuiltins x) (hlim : s₁.heap.NoLimit) (hg : s₁.gens = #[])
    (ha : s₁.heap.get? a = some { cls := .type "list", data := .seq vs.toArray }) (hi : IntsAre vs ns) (hl : ns.length ≤ sizeLine) (hr : Room k callerA)
    (F : ∀ base : Heap, K.In base → base.Ns mainGlobals mg → FnOk P w K mg base CX k fa fd [x] sp) (hbind : ∀ (s : Shared) (u : Value), BindsTo s fd ⟨[u], []⟩ [(x, u)])
    (hsp : ∀ H : Hp, Only H → SqL K H a (ns.map V.int) → sp [.ref a] H (fun v _ => v = .bl true) fun _ _ _ => False)
    (hCX : ∀ H e s', CX [] H s₁ (fun _ _ _ => False) e s' → False) :
    codeAny (model P w) callerA (.call (.ref fa) ⟨[.ref a], []⟩) (fun r s' => r = .ok (.ret (.bool true)) ∧ OldK s₁.heap s'.heap ∧ s'.os = s₁.os ∧ AllBare s'.gens) s₁ := by
  have rv := vals_ints hi
  have lenV := hi.length
  have core : ∀ H : Hp, Only H → SqL K H a (ns.map V.int) → HOk P w H s₁.heap → (∀ b, H b ≠ none → b = a) → (H a ≠ none → K.lookup a = none) →
      codeAny (model P w) callerA (.call (.ref fa) ⟨[.ref a], []⟩) (fun r s' => r = .ok (.ret (.bool true)) ∧ OldK s₁.heap s'.heap ∧ s'.os = s₁.os ∧ AllBare s'.gens) s₁ := by
    intro H hO hS hok hA hK
    have base_of : ∀ {b : Addr} {o : Obj}, s₁.heap.get? b = some o → H b = none → (hidT s₁.heap H).get? b = some o := fun e n => hidT_get e n
    have noA : ∀ {b : Addr} {o : Obj} {es : Array DictEntry} {ep : Nat}, s₁.heap.get? b = some o → o.data = .dict es ep → H b = none := fun {b o es ep} e d => by
      cases q : H b with
      | none => rfl
      | some u =>
        have e' : b = a := hA b (by rw [q]; simp)
        subst e'
        rw [ha] at e; cases e
        have d' : Data.seq vs.toArray _ = Data.dict es ep := d
        cases d'
    have nsK : ∀ {b : Addr} {m : Str → Option Value}, s₁.heap.Ns b m → (hidT s₁.heap H).Ns b m := fun {b m} ⟨o, es, ep, e, d, r⟩ => ⟨o, es, ep, base_of e (noA e d), d, r⟩
    have hKb : K.In (hidT s₁.heap H) := fun b o e => base_of (KX b o e) (by
      cases q : H b with
      | none => rfl
      | some u =>
        have e' : b = a := hA b (by rw [q]; simp)
        subst e'
        rw [hK (by rw [q]; simp)] at e; cases e)
    have hM : Mod K mg (hidT s₁.heap H) := ⟨hKb, nsK hns, ⟨mb, nsK hb, hbb⟩, let ⟨mc, h1, h2⟩ := hlim; ⟨mc, nsK h1, h2⟩⟩
    have e0 : Env0 P w K mg (hidT s₁.heap H) callerA [] s₁ H := ⟨rfl, hM, fun b o e => of_hidT e, Nat.le_of_eq (hidT_size _ _), trivial, fun b hb => absurd (show b ∈ ([] : List Addr) from hb) (by simp), hok, .of_eq hg⟩
    refine codeAny_mono ((F _ hKb (nsK hns)).run callerA [] s₁ H ⟨[.ref a], []⟩ [.ref a] [.ref a] _ _ hr e0 (hbind s₁ (.ref a)) (.cons rfl .nil) (hsp H hO hS)) fun r s' h => ?_
    cases r with
    | error e => exact (hCX H e s' h).elim
    | ok fl =>
      cases fl with
      | next => exact False.elim h
      | brk => exact False.elim h
      | cont => exact False.elim h
      | ret u =>
        obtain ⟨v, H', os, bare, un, hok', r', q⟩ := h
        have q' : v = .bl true := q
        subst q'
        obtain rfl : u = Value.bool true := r'
        refine ⟨rfl, OldK.of_keep fun b o e => ?_, os, bare⟩
        cases q : H b with
        | none => exact un.keep b o e q (by intro z; exact absurd (show b ∈ ([] : List Addr) from z) (by simp)) (by simp)
        | some u =>
          rcases hO b with z | ⟨ob, xs, z⟩
          · rw [q] at z; cases z
          · have z2 := un.frzs b ob _ z
            obtain ⟨e1, _⟩ := hok b _ z
            obtain ⟨e2, _⟩ := hok' b _ z2
            rw [e] at e1; cases e1
            exact e2
  cases hk : K.lookup a with
  | some o =>
    have e := KX a o hk
    rw [ha] at e
    cases e
    refine core (fun _ => none) (fun _ => .inl rfl) (.inr ⟨_, vs.toArray, _, hk, rfl, rfl, rfl, by rw [List.size_toArray, lenV]; exact hl, by simpa using rv⟩) (fun b u z => by have z' : (none : Option HO) = some u := z; cases z') (fun b z => absurd rfl z) fun z => absurd rfl z
  | none =>
    refine core (fun b => if b = a then some (.frz { cls := .type "list", data := .seq vs.toArray } (.lst (ns.map V.int))) else none) (fun b => ?_) (.inl (.inr ⟨{ cls := .type "list", data := .seq vs.toArray }, if_pos rfl⟩)) (fun b u z => ?_) (fun b z => ?_) fun _ => hk
    · by_cases hb : b = a
      · exact .inr ⟨_, _, if_pos hb⟩
      · exact .inl (if_neg hb)
    · by_cases hb : b = a
      · have z' := (if_pos hb).symm.trans z
        cases z'
        subst hb
        exact ⟨ha, by rw [List.length_map]; exact hl, vs, _, rv, ha⟩
      · have z' := (if_neg hb).symm.trans z
        cases z'
    · by_cases hb : b = a
      · exact hb
      · exact absurd (if_neg hb) z
end L2
namespace L2
open PySem PySem.Spec PyProof.Rows
theorem walk_of {l : PySem.W.OpenLaw} {n k : Nat} {q : Program} {loose : List Str} {XP : (Str → Option Value) → Heap → Prop} {YP : World → Heap → Prop} {d : DefRec} {K : Params → PySem.W.Frag} {CX : World → CXT} {sp : World → Sp} {x : Str}
    (hn : l.most = some n) (hn2 : n ≤ sizeLine) (hdf : d.params.defaults = []) (hr : Room k callerA)
    (hY : ∀ (w : World) (h : Heap), YP w h → (K w.params).In h)
    (F : ∀ (w : World) (mg : Str → Option Value) (fa : Addr) (h : Heap), (K w.params).In h → h.Ns mainGlobals mg → mg d.name = some (.ref fa) →
      ∃ fd : FuncData, (∀ (s : Shared) (u : Value), BindsTo s fd ⟨[u], []⟩ [(x, u)]) ∧
        ∀ base : Heap, (K w.params).In base → base.Ns mainGlobals mg → FnOk l.prog w (K w.params) mg base (CX w) k fa fd [x] (sp w))
    (hsp : ∀ (w : World) (H : Hp) (a : Addr) (ns : List Int), ns.length ≤ n → Only H → SqL (K w.params) H a (ns.map V.int) → sp w [.ref a] H (fun v _ => v = .bl true) fun _ _ _ => False)
    (hCX : ∀ (w : World) (H : Hp) (s : Shared) (e : Value) (s' : Shared), CX w [] H s (fun _ _ _ => False) e s' → False) :
    PySem.W.WalkO q loose XP YP l.row.toRowW d [] (fun f vs => PySem.call f vs) := by
  refine Att.attach_call hn hdf fun w s₀ s₁ mg mb fa o pm cd doc a vs ns G Y ho hd hcd hmg hobj hints hlen hg => ?_
  have KX := hY w _ Y
  obtain ⟨fd, hb, hF⟩ := F w mg fa _ KX G.T.g hmg
  exact law_call KX G.T.g G.T.b G.T.builtins G.T.nolimit hg hobj hints (Nat.le_trans hlen hn2) hr hF hb (fun H hO hS => hsp w H a ns hlen hO hS) fun H e s' => hCX w H s₁ e s'
end L2
namespace L2
open PySem PySem.Spec PyProof.Rows
def inClass (s : Stmt) (j : Nat) : Stmt := match s with
  | .ClassDef _ _ _ body _ _ _ _ _ _ _ => body.getD j (.Pass ⟨0, 0, 0, 0⟩)
  | _ => .Pass ⟨0, 0, 0, 0⟩
def defArgs (s : Stmt) : Arguments := match s with
  | .FunctionDef _ a _ _ _ _ _ _ _ _ => a
  | _ => { posonlyargs := [], args := [], vararg := none, kwonlyargs := [], kw_defaults := [], kwarg := none, defaults := [] }
def defBody (s : Stmt) : List Stmt := match s with
  | .FunctionDef _ _ b _ _ _ _ _ _ _ => b
  | _ => []
def defScope (s : Stmt) : Scope := match s with
  | .FunctionDef _ _ _ _ _ _ sc _ _ _ => sc
  | _ => { kind := .function, names := [], isGenerator := false, isCoroutine := false }
abbrev E0 : XK := fun _ _ _ => False
structure Fun (K : PySem.W.Frag) (x qual : Str) (st : Stmt) (f : Addr) (fd : FuncData) : Prop where
  ex : ∃ (oc : Value) (od : Option Addr) (kV doc pm : Value) (an : Option Addr) (cdv ct : Value) (osl : Array (Option Value)),
    fd = PySem.W.fnOf x qual (defArgs st) (defBody st) (defScope st) .none kV doc pm an cdv ct ∧ K.lookup f = some ⟨oc, od, .func fd, osl⟩ ∧ PySem.W.codeIn K cdv qual = true
  kp : PySem.W.keepIn K (.ref f) = true
section
variable {P : Program} {w : World} {K : PySem.W.Frag} {mg : Str → Option Value} {base : Heap}
theorem Fun.binds {x qual : Str} {st : Stmt} {f : Addr} {fd : FuncData} {ps : List Str} (F : Fun K x qual st f fd)
    (h : ∀ (kV doc pm : Value) (an : Option Addr) (cdv ct : Value) (us : List Value), us.length = ps.length → bindArgs (PySem.W.fnOf x qual (defArgs st) (defBody st) (defScope st) .none kV doc pm an cdv ct) ⟨us, []⟩ = pure (ps.zip us)) : Binds K fd ps [] := by
  obtain ⟨oc, od, kV, doc, pm, an, cdv, ct, osl, rfl, lk, hcd⟩ := F.ex
  exact .all (h kV doc pm an cdv ct)
theorem fun_mk {x qual : Str} {st : Stmt} {f : Addr} {oc : Value} {od an : Option Addr} {osl : Array (Option Value)} {kV doc pm cdv ct : Value} (l : K.lookup f = some ⟨oc, od, .func (PySem.W.fnOf x qual (defArgs st) (defBody st) (defScope st) .none kV doc pm an cdv ct), osl⟩)
    (c : PySem.W.codeIn K cdv qual = true) (k : PySem.W.keepIn K (.ref f) = true) : Fun K x qual st f (PySem.W.fnOf x qual (defArgs st) (defBody st) (defScope st) .none kV doc pm an cdv ct) := ⟨⟨oc, od, kV, doc, pm, an, cdv, ct, osl, rfl, l, c⟩, k⟩
end
theorem iteF {A B : Prop} (h : B) : if false = true then A else B := by
  rw [if_neg Bool.false_ne_true]
  exact h
theorem iteT {A B : Prop} (h : A) : if true = true then A else B := by
  rw [if_pos rfl]
  exact h
theorem ite2 {c A B : Prop} [Decidable c] (h1 : c → A) (h2 : ¬ c → B) : if c then A else B := by
  by_cases h : c
  · rw [if_pos h]
    exact h1 h
  · rw [if_neg h]
    exact h2 h
def Same (H H' : Hp) : Prop := ∀ b o, H b = some o → H' b = some o
theorem Same.refl (H : Hp) : Same H H := fun _ _ h => h
theorem Same.trans {H H1 H2 : Hp} (a : Same H H1) (b : Same H1 H2) : Same H H2 := fun c o h => b c o (a c o h)
theorem Same.free {H H' : Hp} (e : Same H H') {l : Addr} (h : H' l = Option.none) : H l = Option.none := by
  cases q : H l with
  | none => rfl
  | some o =>
    rw [e l o q] at h
    cases h
theorem Same.seq {K : PySem.W.Frag} {H H' : Hp} {a : Addr} {xs : List V} (e : Same H H') (h : SqL K H a xs) : SqL K H' a xs := by
  rcases h with (h | ⟨o, h⟩) | h
  · exact .inl (.inl (e _ _ h))
  · exact .inl (.inr ⟨o, e _ _ h⟩)
  · exact .inr h
end L2
set_option Elab.async false
set_option linter.all false
set_option maxRecDepth 100000
namespace L2
open PySem PySem.Spec PyProof.Rows
theorem Vals.cons' {x : V} {u : Value} (r : RelV x u) : Vals [x] [u] := .cons r .nil
end L2
namespace L2
open PySem PySem.Spec PyProof.Rows
theorem Inv.track {X : Cx} {pins : List (Addr × Obj)} {σ : St} {H : Hp} {s : Shared} {D : Addr} {o : HO} (I : Inv X pins σ H s) (hn : H D = none) (h0 : X.s₀.heap.objs.size ≤ D) (hL : D ≠ X.env.locals)
    (hc : ∀ x c, X.env.cells.lookup x = some c → c ≠ D) (hp : ∀ p ∈ X.pn ++ pins, p.1 ≠ D) (new : ObjOk X.prog X.w (upd H D o) s.heap D o) : Inv X pins σ (upd H D o) s := by
  have ne : ∀ b u, H b = some u → b ≠ D := fun b u e => ne_of_none e hn
  refine ⟨I.ok, I.os, I.bare, ⟨I.base.keep, I.base.slot, fun b u e n hx => ?_, I.base.there, fun b xs e => ?_, fun b u xs e => ?_, fun b ps e => ?_⟩, I.loc, I.cell, ?_, fun x c e => ?_, fun p q => ?_, fun b u e => ?_, I.len⟩
  · rw [upd_ne (Nat.ne_of_lt (Nat.lt_of_lt_of_le (Heap.lt_size e) h0))]
    exact I.base.free b u e n hx
  · have e' := I.base.tups b xs e
    rw [upd_ne (ne b _ e')]; exact e'
  · have e' := I.base.frzs b u xs e
    rw [upd_ne (ne b _ e')]; exact e'
  · obtain ⟨more, e'⟩ := I.base.tbls b ps e
    exact ⟨more, by rw [upd_ne (ne b _ e')]; exact e'⟩
  · rw [upd_ne (Ne.symm hL)]; exact I.free
  · rw [upd_ne (hc x c e)]; exact I.freeC x c e
  · obtain ⟨a1, a2, a3, a4, a5⟩ := I.pin p q
    exact ⟨a1, by rw [upd_ne (hp p q)]; exact a2, a3, a4, a5⟩
  · by_cases hb : b = D
    · subst hb; rw [upd_same] at e; cases e; exact new
    · rw [upd_ne hb] at e
      exact (I.hok b u e).stay (fun c v _ q => q) (fun c q => by rw [upd_ne (ne c _ q)]; exact q) fun c xs q => by rw [upd_ne (ne c _ q)]; exact q
def closL : List (Str × NameKind) → List (Str × Addr) → List (Str × Addr) → List (Str × Addr)
  | [], _, acc => acc
  | (n, k) :: r, cells, acc => if k == .free then closL r cells ((n, (cells.lookup n).getD 0) :: acc) else closL r cells acc
theorem closure_go {env : Env} : ∀ (names : List (Str × NameKind)) (acc : List (Str × Addr)), (∀ y ∈ names, y.2 = .free → ∃ c, env.cells.lookup y.1 = some c) →
    (forIn names acc fun x cs => (if x.2 == NameKind.free then do let a ← cellOf env x.1; pure (ForInStep.yield ((x.1, a) :: cs)) else pure (ForInStep.yield cs) : Sem (ForInStep (List (Str × Addr))))) = pure (closL names env.cells acc) := by
  intro names
  induction names with
  | nil => intro acc _; rfl
  | cons p r ih =>
    intro acc h
    obtain ⟨n, k⟩ := p
    rw [List.forIn_cons]
    have hr : ∀ y ∈ r, y.2 = .free → ∃ c, env.cells.lookup y.1 = some c := fun y hy => h y (List.mem_cons_of_mem _ hy)
    by_cases hk : k = .free
    · subst hk
      obtain ⟨c, hc⟩ := h (n, .free) List.mem_cons_self rfl
      have hc' : env.cells.lookup n = some c := hc
      have e1 : cellOf env n = pure c := by unfold cellOf; rw [hc']
      have e2 : closL ((n, NameKind.free) :: r) env.cells acc = closL r env.cells ((n, c) :: acc) := by
        show (if (NameKind.free == NameKind.free) = true then _ else _) = _
        rw [if_pos (by decide), hc']; rfl
      rw [e2, ← ih ((n, c) :: acc) hr]
      simp only [beq_self_eq_true, if_true, e1, pure_bind]
    · have hb : (k == NameKind.free) = false := by simpa using hk
      have e2 : closL ((n, k) :: r) env.cells acc = closL r env.cells acc := by
        show (if (k == NameKind.free) = true then _ else _) = _
        rw [hb]; rfl
      rw [e2, ← ih acc hr]
      simp only [hb, Bool.false_eq_true, if_false, pure_bind]
theorem closure_is {env : Env} {scope : Scope} (h : ∀ y ∈ scope.names, y.2 = .free → ∃ c, env.cells.lookup y.1 = some c) : closureFor scope env = pure (closL scope.names env.cells []) := by
  rw [← closure_go scope.names [] h]
  unfold closureFor
  simp only [bind_pure]
theorem closL_lookup : ∀ (names : List (Str × NameKind)) {cells acc : List (Str × Addr)} {x : Str} {c : Addr}, (∀ y ∈ names, y.2 = .free → ∃ c, cells.lookup y.1 = some c) → (∀ y d, acc.lookup y = some d → cells.lookup y = some d) →
    (closL names cells acc).lookup x = some c → cells.lookup x = some c := by
  intro names
  induction names with
  | nil => intro cells acc x c _ h e; exact h x c e
  | cons p r ih =>
    intro cells acc x c h ha e
    obtain ⟨n, k⟩ := p
    have hr : ∀ y ∈ r, y.2 = .free → ∃ c, cells.lookup y.1 = some c := fun y hy => h y (List.mem_cons_of_mem _ hy)
    by_cases hk : k = .free
    · subst hk
      obtain ⟨d, hd⟩ := h (n, .free) List.mem_cons_self rfl
      have hd' : cells.lookup n = some d := hd
      have e2 : closL ((n, NameKind.free) :: r) cells acc = closL r cells ((n, d) :: acc) := by
        show (if (NameKind.free == NameKind.free) = true then _ else _) = _
        rw [if_pos (by decide), hd']; rfl
      rw [e2] at e
      refine ih hr (fun y q z => ?_) e
      rw [List.lookup_cons] at z
      split at z
      · rename_i hy
        have hy' : y = n := by simpa using hy
        subst hy'
        cases z; exact hd'
      · exact ha y q z
    · have hb : (k == NameKind.free) = false := by simpa using hk
      have e2 : closL ((n, k) :: r) cells acc = closL r cells acc := by
        show (if (k == NameKind.free) = true then _ else _) = _
        rw [hb]; rfl
      rw [e2] at e
      exact ih hr ha e
theorem closL_has : ∀ (names : List (Str × NameKind)) {cells acc : List (Str × Addr)} {x : Str}, ((x, NameKind.free) ∈ names ∨ ∃ d, acc.lookup x = some d) → ∃ c, (closL names cells acc).lookup x = some c := by
  intro names
  induction names with
  | nil =>
    intro cells acc x h
    rcases h with h | h
    · exact absurd h (by simp)
    · exact h
  | cons p r ih =>
    intro cells acc x h
    obtain ⟨n, k⟩ := p
    by_cases hk : k = .free
    · subst hk
      have e2 : closL ((n, NameKind.free) :: r) cells acc = closL r cells ((n, (cells.lookup n).getD 0) :: acc) := by
        show (if (NameKind.free == NameKind.free) = true then _ else _) = _
        rw [if_pos (by decide)]
      rw [e2]
      refine ih ?_
      by_cases hx : x = n
      · exact .inr ⟨(cells.lookup n).getD 0, by subst hx; simp [List.lookup_cons]⟩
      · rcases h with h | ⟨d, h⟩
        · rcases List.mem_cons.mp h with q | q
          · exact absurd (congrArg Prod.fst q) hx
          · exact .inl q
        · refine .inr ⟨d, ?_⟩
          rw [List.lookup_cons]
          have : (x == n) = false := by simpa using hx
          rw [this]; exact h
    · have hb : (k == NameKind.free) = false := by simpa using hk
      have e2 : closL ((n, k) :: r) cells acc = closL r cells acc := by
        show (if (k == NameKind.free) = true then _ else _) = _
        rw [hb]; rfl
      rw [e2]
      refine ih ?_
      rcases h with h | h
      · rcases List.mem_cons.mp h with q | q
        · exact absurd (congrArg Prod.snd q).symm hk
        · exact .inl q
      · exact .inr h
theorem relabel_lookup {env : Env} : ∀ (names : List (Str × NameKind)) (x : Str),
    (names.map fun (n, k) => if (k == NameKind.free && env.scope.kind == .function && env.kindOf n == some .cell) then (n, NameKind.cell) else (n, k)).lookup x =
      (names.lookup x).map fun k => if (k == NameKind.free && env.scope.kind == .function && env.kindOf x == some .cell) then NameKind.cell else k
  | [], _ => rfl
  | (n, k) :: r, x => by
    have ih := @relabel_lookup env r x
    show List.lookup x ((if (k == NameKind.free && env.scope.kind == .function && env.kindOf n == some .cell) = true then (n, NameKind.cell) else (n, k)) :: _) = _
    by_cases hx : x = n
    · subst hx
      by_cases hc : (k == NameKind.free && env.scope.kind == .function && env.kindOf x == some .cell) = true
      · rw [if_pos hc]; simp only [List.lookup_cons, beq_self_eq_true, Option.map_some]; rw [if_pos hc]
      · rw [if_neg hc]; simp only [List.lookup_cons, beq_self_eq_true, Option.map_some]; rw [if_neg hc]
    · have hb : (x == n) = false := by simpa using hx
      by_cases hc : (k == NameKind.free && env.scope.kind == .function && env.kindOf n == some .cell) = true
      · rw [if_pos hc]; simp only [List.lookup_cons, hb]; exact ih
      · rw [if_neg hc]; simp only [List.lookup_cons, hb]; exact ih
def compOk (scope outer : Scope) (N : List Str) (x : Str) : Bool :=
  (scope.kind == .function) && scope.names.all (fun y => !(y.2 == .cell)) && scope.names.all (fun y => !(y.2 == .local) || (y.1 == x || y.1 == ".0")) &&
    scope.names.all (fun y => !(y.2 == .local) || scope.names.lookup y.1 == some .local) && (scope.names.lookup x == some .local) &&
    scope.names.all (fun y => !(y.2 == .free) || (outer.names.lookup y.1 == some .cell || outer.names.lookup y.1 == some .free)) &&
    !(N.contains ".0") && (scope.names.lookup (x ++ "'") == none) && decide (x :: N.map fun y => if y = x then x ++ "'" else y).Nodup
def compN (N : List Str) (x : Str) : List Str := x :: N.map fun y => if y = x then x ++ "'" else y
structure CompOk (scope outer : Scope) (N : List Str) (x : Str) : Prop where
  kind : scope.kind = .function
  nocell : ∀ y ∈ scope.names, y.2 ≠ .cell
  loc : ∀ y ∈ scope.names, y.2 = .local → y.1 = x ∨ y.1 = ".0"
  names : ∀ y ∈ scope.names, y.2 = .local → scope.names.lookup y.1 = some .local
  own : scope.names.lookup x = some .local
  free : ∀ y ∈ scope.names, y.2 = .free → outer.names.lookup y.1 = some .cell ∨ outer.names.lookup y.1 = some .free
  dot : (".0" : Str) ∉ N
  prime : scope.names.lookup (x ++ "'") = none
  nd : (compN N x).Nodup
theorem compOk_iff {scope outer : Scope} {N : List Str} {x : Str} (h : compOk scope outer N x = true) : CompOk scope outer N x := by
  unfold compOk at h
  simp only [Bool.and_eq_true, List.all_eq_true, Bool.or_eq_true, Bool.not_eq_true', beq_iff_eq, beq_eq_false_iff_ne, decide_eq_true_eq] at h
  obtain ⟨⟨⟨⟨⟨⟨⟨⟨h1, h2⟩, h3⟩, h4⟩, h5⟩, h6⟩, h7⟩, h8⟩, h9⟩ := h
  refine ⟨h1, h2, fun y hy e => ?_, fun y hy e => ?_, h5, fun y hy e => ?_, ?_, h8, h9⟩
  · rcases h3 y hy with z | z
    · exact absurd e z
    · exact z
  · rcases h4 y hy with z | z
    · exact absurd e z
    · exact z
  · rcases h6 y hy with z | z
    · exact absurd e z
    · exact z
  · intro z
    have : N.contains ".0" = true := List.contains_iff_mem.mpr z
    rw [this] at h7; cases h7
end L2
namespace L2
open PySem PySem.Spec PyProof.Rows
theorem compLoop_any {prog : Program} {w : World} {A : Around} {R : Result → Shared → Prop} {s : Shared} {elt target iter : Expr} {ifs : List Expr} {scope : Scope} {pos : Pos} {it acc : Value} {env : Env} (I : Nat → Shared → Prop)
    (turn : ∀ n s, I n s → wpAny (model prog w) A (pyNext it) (fun r s₁ => match r with
      | none => R (.ok .next) s₁
      | some v => wpAny (model prog w) A (letOwnedTupleGo target it v) (fun _ s₁ => wpAny (model prog w) A (assign target env v) (fun _ s₂ =>
          wpAny (model prog w) A (forIn ifs true fun c r => if r = true then do let ok ← isTrue c env (eval c env); pure (ForInStep.yield ok) else pure (ForInStep.yield r)) (fun ok s₃ =>
            if ok = true then wpAny (model prog w) A (eval elt env) (fun x s₄ =>
              wpAny (model prog w) A (call (.builtin "list.append") [acc, x]) (fun _ s₅ => ∃ m, m < n ∧ I m s₅) (fun _ _ => False) s₄) (fun _ _ => False) s₃
            else ∃ m, m < n ∧ I m s₃) (fun _ _ => False) s₂) (fun _ _ => False) s₁) (fun _ _ => False) s₁) (fun _ _ => False) s)
    (n : Nat) (h : I n s) :
    codeAny (model prog w) A (.compLoop (.ListComp elt [⟨target, iter, ifs, 0⟩] scope pos) 0 it acc env) R s := by
  refine codeAny_loop rfl I (fun n s hI => ?_) n h
  show wpAny _ A ((compTurn (.ListComp elt [⟨target, iter, ifs, 0⟩] scope pos) 0 it acc env).onRaise (fun x => do noteFrame x env; theTreesLotGoes x)) _ _ s
  refine wpAny_noted ?_
  rw [compTurn_list]
  refine wpAny_bind (wpAny_standAt (wpAny_bind (wpAny_mono (turn n s hI) (fun r s₁ h₁ => ?_) fun _ _ h' => h'.elim)))
  cases r with
  | none => exact wpAny_pure h₁
  | some v =>
    refine wpAny_bind (wpAny_mono h₁ (fun _ s₁ h₁ => ?_) fun _ _ h' => h'.elim)
    refine wpAny_bind (wpAny_mono h₁ (fun _ s₂ h₂ => wpAny_bind (wpAny_mono h₂ (fun ok s₃ h₃ => ?_) fun _ _ h' => h'.elim)) fun _ _ h' => h'.elim)
    cases ok with
    | false => exact wpAny_pure ⟨rfl, h₃⟩
    | true =>
      exact wpAny_bind (wpAny_bind (wpAny_mono h₃ (fun x s₄ h₄ => wpAny_bind (wpAny_mono h₄ (fun _ s₅ h₅ => wpAny_pure (wpAny_pure ⟨rfl, h₅⟩)) fun _ _ h' => h'.elim)) fun _ _ h' => h'.elim))
section
variable {X : Cx}
def PIfs (X : Cx) (ifs : List Expr) (t : TT) : Prop :=
  ∀ (pins : List (Addr × Obj)) (s : Shared) (σ : St) (H : Hp) (Q : Bool → Hp → Prop), Inv X pins σ H s → t σ H Q →
    wpAny (model X.prog X.w) X.A (forIn ifs true fun c r => if r = true then do let ok ← isTrue c X.env (eval c X.env); pure (ForInStep.yield ok) else pure (ForInStep.yield r)) (TP X pins σ Q) X.xe s
def tYes : TT := fun _ H Q => Q true H
theorem pif_nil : PIfs X [] tYes := fun _ _ _ H _ I h => wpAny_tests_nil ⟨H, I, h⟩
theorem pif_one {c : Expr} {t : TT} (h : PT X c t) : PIfs X [c] t := fun pins s σ H Q I hw => wpAny_tests_one (h pins s σ H Q I hw)
def cxComp (X : Cx) (x : Str) (scope : Scope) (s : Shared) (H : Hp) (ex : List Addr) : Cx :=
  { X with
    N := compN X.N x
    s₀ := s
    H₀ := H
    env := compEnvC scope (closL scope.names X.env.cells []) s.heap.objs.size X.env
    outer := X.stack
    stack := X.stack
    ex := ex
    fn := fun _ => false
    pn := []
    xe := fun _ _ => False }
def CompW (J : It) (tc : TT) (te : TE) (σ : St) (fin : List V → Hp → Prop) (W : Nat → Nat → List V → Hp → Prop) : Prop :=
  ∀ i m ys H, W i m ys H → ys.length ≤ sizeLine ∧ ((J.stop i H ∧ fin ys H) ∨
    (J.go i H ∧ ∀ v H', J.yld i H v H' → tc (some v :: σ) H' fun b H2 => if b = true then te (some v :: σ) H2 fun y H3 => ∃ m', m' < m ∧ W (i + 1) m' (ys ++ [y]) H3 else ∃ m', m' < m ∧ W (i + 1) m' ys H2))
theorem lookup_mem {α : Type} : ∀ {l : List (Str × α)} {x : Str} {k : α}, l.lookup x = some k → (x, k) ∈ l
  | [], _, _, h => by simp at h
  | (n, k') :: r, x, k, h => by
    rw [List.lookup_cons] at h
    split at h
    · rename_i hx
      have : x = n := by simpa using hx
      subst this
      cases h
      exact List.mem_cons_self
    · exact List.mem_cons_of_mem _ (lookup_mem h)
theorem compN_get {N : List Str} {x y : Str} {i : Nat} (h : (compN N x)[i + 1]? = some y) : (N[i]? = some y ∧ y ≠ x) ∨ y = x ++ "'" := by
  unfold compN at h
  rw [List.getElem?_cons_succ, List.getElem?_map] at h
  cases e : N[i]? with
  | none => rw [e] at h; cases h
  | some z =>
    rw [e] at h
    have h' : (if z = x then x ++ "'" else z) = y := by simpa using h
    by_cases hz : z = x
    · rw [if_pos hz] at h'; exact .inr h'.symm
    · rw [if_neg hz] at h'
      subst h'
      exact .inl ⟨rfl, hz⟩
theorem comp_start {x : Str} {scope : Scope} {pins : List (Addr × Obj)} {σ : St} {H : Hp} {s : Shared} {h₁ : Heap} {ex : List Addr} (ok : CompOk scope X.env.scope X.N x) (hc : X.calm = true) (I : Inv X pins σ H s)
    (hns : h₁.Ns s.heap.objs.size fun _ => none) (hk : ∀ b o, s.heap.get? b = some o → h₁.get? b = some o)
    (hex : ∀ b ∈ ex, b < s.heap.objs.size ∧ b ≠ X.env.locals ∧ b ∉ X.fs ∧ H b = none ∧ (b ∈ X.ex ∨ X.s₀.heap.objs.size ≤ b) ∧ (∀ y c, X.env.cells.lookup y = some c → c ≠ b)) {tk : Nat} :
    Inv (cxComp X x scope s H ex) [] (none :: σ) H { s with heap := h₁, toks := tk } := by
  have hfree : ∀ y ∈ scope.names, y.2 = .free → ∃ c, X.env.cells.lookup y.1 = some c := fun y hy e => I.ok.has y.1 (ok.free y hy e)
  have cl : ∀ y c, (closL scope.names X.env.cells []).lookup y = some c → X.env.cells.lookup y = some c := fun y c e => closL_lookup scope.names hfree (fun _ _ z => by simp at z) e
  have clt : ∀ y c, X.env.cells.lookup y = some c → c < s.heap.objs.size := fun y c e => by
    obtain ⟨v, q⟩ := I.cell y c e
    exact q.lt
  have kindL : ∀ y, (compEnvC scope (closL scope.names X.env.cells []) s.heap.objs.size X.env).kindOf y = (scope.names.lookup y).map fun k => if (k == NameKind.free && X.env.scope.kind == .function && X.env.kindOf y == some .cell) then NameKind.cell else k := fun y => relabel_lookup scope.names y
  have freeOf : ∀ y, (∃ k, (compEnvC scope (closL scope.names X.env.cells []) s.heap.objs.size X.env).kindOf y = some k ∧ (k = .cell ∨ k = .free)) → (y, NameKind.free) ∈ scope.names := fun y ⟨k, e, hk⟩ => by
    rw [kindL] at e
    cases q : scope.names.lookup y with
    | none => rw [q] at e; cases e
    | some k' =>
      have mem := lookup_mem q
      by_cases hf : k' = .free
      · subst hf; exact mem
      · rw [q] at e
        have hb : (k' == NameKind.free) = false := by simpa using hf
        simp only [Option.map_some, hb, Bool.false_and, Bool.false_eq_true, if_false, Option.some.injEq] at e
        subst e
        rcases hk with z | z
        · exact absurd z (ok.nocell _ mem)
        · exact absurd z hf
  have stackFr : ∀ b ∈ frs X.stack, b = X.env.locals ∨ b ∈ X.fs := fun b hb => List.mem_cons.mp (I.stkSub b hb)
  refine ⟨⟨I.ok.mod, ?_, I.ok.glob, I.ok.blt, Nat.le_refl _, fun y z c e1 e2 => ?_, fun y hy => ?_, fun y c z _ => ?_, fun _ => I.ok.hd hc, I.ok.frames, .inl rfl, fun b hb => ⟨?_, fun y c e => ?_⟩, fun b o e => ?_, ?_, fun b o e hb => ?_, fun b hb hf => ?_, ?_, fun b hb => ?_⟩,
    rfl, I.bare, Un.kept hk, ⟨_, hns, fun i y v e1 e2 e3 => ?_⟩, fun y c e => ?_, I.hok.fresh (Nat.le_refl _), fun y c e => I.freeC y c (cl y c e), fun p hp => ?_, I.hok.kept hk, ?_⟩
  · exact ok.kind
  · exact I.ok.inj y z c (cl y c e1) (cl z c e2)
  · have hm : (y, NameKind.free) ∈ scope.names := by
      rcases hy with z | z
      · exact freeOf y ⟨_, z, .inl rfl⟩
      · exact freeOf y ⟨_, z, .inr rfl⟩
    exact closL_has scope.names (.inl hm)
  · exact absurd (show false = true from z) (by decide)
  · exact Nat.ne_of_lt (hex b hb).1
  · exact (hex b hb).2.2.2.2.2 y c (cl y c e)
  · obtain ⟨e1, e2⟩ := I.bs b o e
    exact ⟨e1, e2⟩
  · exact Nat.le_trans I.ok.bsz I.sz
  · rcases (hex b hb).2.2.2.2.1 with z | z
    · exact I.ok.noex b o e z
    · exact absurd (Nat.lt_of_lt_of_le (Heap.lt_size (I.ok.bs b o e).1) z) (Nat.lt_irrefl _)
  · rcases stackFr b hf with z | z
    · exact (hex b hb).2.1 z
    · exact (hex b hb).2.2.1 z
  · exact I.stack
  · exact I.stkFree b hb
  · cases i with
    | zero =>
      have : (none :: σ)[0]? = some (some v) := e2
      simp at this
    | succ i =>
      have e2' : σ[i]? = some (some v) := by simpa using e2
      have vis : Vis (relabel scope X.env) y := e3
      rcases compN_get e1 with ⟨eN, hyx⟩ | hp
      ·
        have kf : (y, NameKind.free) ∈ scope.names := by
          have k3 : ∃ k, (compEnvC scope (closL scope.names X.env.cells []) s.heap.objs.size X.env).kindOf y = some k ∧ (k = .local ∨ k = .cell ∨ k = .free) := by
            rcases vis with z | z | z
            · exact ⟨_, z, .inl rfl⟩
            · exact ⟨_, z, .inr (.inl rfl)⟩
            · exact ⟨_, z, .inr (.inr rfl)⟩
          obtain ⟨k, e, hk3⟩ := k3
          rcases hk3 with hl | hk3
          · subst hl
            have e' := e
            rw [kindL] at e'
            cases q : scope.names.lookup y with
            | none => rw [q] at e'; cases e'
            | some k' =>
              have mem := lookup_mem q
              rw [q] at e'
              have hk' : k' = .local := by
                by_cases hcnd : (k' == NameKind.free && X.env.scope.kind == .function && X.env.kindOf y == some .cell) = true
                · simp only [Option.map_some, hcnd, if_true, Option.some.injEq] at e'
                  cases e'
                · simp only [Option.map_some, hcnd, Bool.false_eq_true, if_false, Option.some.injEq] at e'
                  exact e'
              subst hk'
              rcases ok.loc _ mem rfl with z | z
              · exact absurd z hyx
              · have : y = ".0" := z
                subst this
                exact absurd (List.mem_of_getElem? eN) ok.dot
          · exact freeOf y ⟨k, e, hk3⟩
        have hout := ok.free _ kf rfl
        have visO : Vis X.env.scope y := by
          rcases hout with z | z
          · exact .inr (.inl z)
          · exact .inr (.inr z)
        obtain ⟨m, hn, hl⟩ := I.loc
        obtain ⟨u, ru, lk⟩ := hl i y v eN e2' visO
        refine ⟨u, ru, ?_⟩
        rcases lk with ⟨lk, _⟩ | ⟨_, c, ec, hcell⟩
        · have lk' : X.env.scope.names.lookup y = some .local := lk
          rcases hout with z | z <;> (have z' : X.env.scope.names.lookup y = _ := z; rw [lk'] at z'; cases z')
        · obtain ⟨c', ec'⟩ := closL_has (cells := X.env.cells) (acc := []) scope.names (.inl kf)
          have : c' = c := by
            have := cl y c' ec'
            rw [ec] at this; cases this; rfl
          subst this
          have kk : (compEnvC scope (closL scope.names X.env.cells []) s.heap.objs.size X.env).kindOf y = some .cell ∨ (compEnvC scope (closL scope.names X.env.cells []) s.heap.objs.size X.env).kindOf y = some .free := by
            rcases vis with z | z | z
            ·
              have z' : (compEnvC scope (closL scope.names X.env.cells []) s.heap.objs.size X.env).kindOf y = some .local := z
              rw [kindL] at z'
              cases q : scope.names.lookup y with
              | none => rw [q] at z'; cases z'
              | some k' =>
                have mem := lookup_mem q
                rw [q] at z'
                have hk' : k' = .local := by
                  by_cases hcnd : (k' == NameKind.free && X.env.scope.kind == .function && X.env.kindOf y == some .cell) = true
                  · simp only [Option.map_some, hcnd, if_true, Option.some.injEq] at z'
                    cases z'
                  · simp only [Option.map_some, hcnd, Bool.false_eq_true, if_false, Option.some.injEq] at z'
                    exact z'
                subst hk'
                rcases ok.loc _ mem rfl with zz | zz
                · exact absurd zz hyx
                · have : y = ".0" := zz
                  subst this
                  exact absurd (List.mem_of_getElem? eN) ok.dot
            · exact .inl z
            · exact .inr z
          refine .inr ⟨kk, c', ec', ?_⟩
          obtain ⟨oc, hoc, hd⟩ := hcell
          exact ⟨oc, hk _ _ hoc, hd⟩
      · subst hp
        exfalso
        have kn : (compEnvC scope (closL scope.names X.env.cells []) s.heap.objs.size X.env).kindOf (x ++ "'") = none := by rw [kindL, ok.prime]; rfl
        rcases vis with z | z | z
        · have z' : (compEnvC scope (closL scope.names X.env.cells []) s.heap.objs.size X.env).kindOf (x ++ "'") = some .local := z
          rw [kn] at z'; cases z'
        · have z' : (compEnvC scope (closL scope.names X.env.cells []) s.heap.objs.size X.env).kindOf (x ++ "'") = some .cell := z
          rw [kn] at z'; cases z'
        · have z' : (compEnvC scope (closL scope.names X.env.cells []) s.heap.objs.size X.env).kindOf (x ++ "'") = some .free := z
          rw [kn] at z'; cases z'
  · obtain ⟨v, oc, hoc, hd⟩ := I.cell y c (cl y c e)
    exact ⟨v, oc, hk _ _ hoc, hd⟩
  · exact absurd (show p ∈ ([] : List (Addr × Obj)) from hp) (by simp)
  · show (none :: σ).length = (compN X.N x).length
    unfold compN
    rw [List.length_cons, List.length_cons, List.length_map, I.len]
end
end L2
namespace L2
open PySem PySem.Spec PyProof.Rows
section
variable {X : Cx}
theorem Heap.SameBut.keeps {a : Addr} {h h' : Heap} (k : Heap.SameBut a h h') {b : Addr} {o : Obj} (hb : b ≠ a) (e : h.get? b = some o) : h'.get? b = some o := (k.2 b hb).trans e
theorem comp_loop {x : Str} {px pos : Pos} {scope : Scope} {elt iter : Expr} {ifs : List Expr} {tc : TT} {te : TE} {pins : List (Addr × Obj)} {σ : St} {H₂ : Hp} {s₃ : Shared} {h₁ : Heap} {tk : Nat} {it D : Addr} {fp : List Addr} {tn : Nat → Heap → Prop} {J : It} {fin : List V → Hp → Prop}
    {W : Nat → Nat → List V → Hp → Prop} {RR : Value → Addr → Result → Shared → Prop}
    (ok : CompOk scope X.env.scope X.N x) (hc : X.calm = true) (hif : ∀ s H ex, PIfs (cxComp X x scope s H ex) ifs tc) (he : ∀ s H ex, PE (cxComp X x scope s H ex) elt te)
    (I3 : Inv X pins σ H₂ s₃) (T : Turn X.prog X.w X.K (.Name x px) J fp it tn) (st : tn 0 s₃.heap) (f2 : ∀ b ∈ fp, FpOk X pins H₂ b) (w0 : ∃ m, W 0 m [] H₂) (hW : CompW J tc te σ fin W)
    (hDfresh : H₂ D = none) (fD : FpOk X pins H₂ D) (h0D : X.s₀.heap.objs.size ≤ D) (hobjD : s₃.heap.get? D = some { cls := .type "list", dict := none, data := .seq ([] : List Value).toArray }) (Dfp : D ∉ fp)
    (hns₁ : h₁.Ns s₃.heap.objs.size fun _ => none) (keep31 : ∀ b o, s₃.heap.get? b = some o → h₁.get? b = some o)
    (hRR : ∀ D C ys H' s', H' D = none → fin ys H' → Inv X pins σ (upd H' D (.lst ys)) s' → FpOk X pins (upd H' D (.lst ys)) C → (∃ m, s'.heap.Ns C m) → RR (.ref D) C (.ok .next) s') :
    codeAny (model X.prog X.w) X.A (.compLoop (.ListComp elt [⟨.Name x px, iter, ifs, 0⟩] scope pos) 0 (.ref it) (.ref D) (compEnvC scope (closL scope.names X.env.cells []) s₃.heap.objs.size X.env)) (RR (.ref D) s₃.heap.objs.size) { s₃ with heap := h₁, toks := tk } := by
  have hfpex : ∀ b ∈ fp, ∃ o, s₃.heap.get? b = some o ∧ ∀ v, o.data ≠ .cell v := T.obj 0 s₃.heap st
  have hex : ∀ b ∈ D :: fp, b < s₃.heap.objs.size ∧ b ≠ X.env.locals ∧ b ∉ X.fs ∧ H₂ b = none ∧ (b ∈ X.ex ∨ X.s₀.heap.objs.size ≤ b) ∧ (∀ y c, X.env.cells.lookup y = some c → c ≠ b) := fun b hb => by
    rcases List.mem_cons.mp hb with e | hb
    · subst e
      obtain ⟨g0, g1, g2, g3, g4, g5⟩ := fD
      exact ⟨Heap.lt_size hobjD, g1, g2, g0, g3, g4⟩
    · obtain ⟨g0, g1, g2, g3, g4, g5⟩ := f2 b hb
      obtain ⟨o, eo, _⟩ := hfpex b hb
      exact ⟨Heap.lt_size eo, g1, g2, g0, g3, g4⟩
  have I4 := comp_start (ex := D :: fp) (tk := tk) ok hc I3 hns₁ keep31 hex
  generalize hY : cxComp X x scope s₃ H₂ (D :: fp) = Y at I4
  have Yprog : Y.prog = X.prog := by rw [← hY]; rfl
  have Yw : Y.w = X.w := by rw [← hY]; rfl
  have YK : Y.K = X.K := by rw [← hY]; rfl
  have YA : Y.A = X.A := by rw [← hY]; rfl
  have Yc : Y.calm = true := by rw [← hY]; exact hc
  have YN : Y.N.Nodup := by rw [← hY]; exact ok.nd
  have Y0 : Y.N[0]? = some x := by rw [← hY]; rfl
  have Yenv : Y.env = compEnvC scope (closL scope.names X.env.cells []) s₃.heap.objs.size X.env := by rw [← hY]; rfl
  have Yx : Y.env.scope.names.lookup x = some .local := by rw [Yenv]; exact lookup_relabel_local ok.own
  have Yfs : Y.fs = frs X.stack := by rw [← hY]; rfl
  have Yex : Y.ex = D :: fp := by rw [← hY]; rfl
  have Ys0 : Y.s₀ = s₃ := by rw [← hY]; rfl
  have YH0 : Y.H₀ = H₂ := by rw [← hY]; rfl
  have Ypn : Y.pn = [] := by rw [← hY]; rfl
  have Yxe : Y.xe = fun _ _ => False := by rw [← hY]; rfl
  have hif' : PIfs Y ifs tc := by rw [← hY]; exact hif _ _ _
  have he' : PE Y elt te := by rw [← hY]; exact he _ _ _
  have Dne : D ≠ Y.env.locals := by rw [Yenv]; exact Nat.ne_of_lt (Heap.lt_size hobjD)
  have Dfs : D ∉ Y.fs := by
    rw [Yfs]; intro hb
    rcases List.mem_cons.mp (I3.stkSub D hb) with z | z
    · exact fD.2.1 z
    · exact fD.2.2.1 z
  have Dcell : ∀ y c, Y.env.cells.lookup y = some c → c ≠ D := fun y c e => by
    have hfree : ∀ y ∈ scope.names, y.2 = .free → ∃ c, X.env.cells.lookup y.1 = some c := fun y hy e => I3.ok.has y.1 (ok.free y hy e)
    rw [Yenv] at e
    exact fD.2.2.2.2.1 y c (closL_lookup scope.names hfree (fun _ _ z => by simp at z) e)
  have fpY : ∀ {H' : Hp} {pl : List (Addr × Obj)}, (∀ b ∈ fp, H' b = none) → (∀ p ∈ pl, p.1 ∉ fp) → ∀ b ∈ fp, FpOk Y pl H' b := fun {H' pl} hn hp b hb => by
    obtain ⟨g0, g1, g2, g3, g4, g5⟩ := f2 b hb
    have hlt := (hex b (List.mem_cons_of_mem _ hb)).1
    refine ⟨hn b hb, ?_, ?_, .inl (by rw [Yex]; exact List.mem_cons_of_mem _ hb), fun y c e => ?_, fun p q z => ?_⟩
    · rw [Yenv]; exact Nat.ne_of_lt hlt
    · rw [Yfs]; intro z
      rcases List.mem_cons.mp (I3.stkSub b z) with z | z
      · exact g1 z
      · exact g2 z
    · have hfree : ∀ y ∈ scope.names, y.2 = .free → ∃ c, X.env.cells.lookup y.1 = some c := fun y hy e => I3.ok.has y.1 (ok.free y hy e)
      rw [Yenv] at e
      exact g4 y c (closL_lookup scope.names hfree (fun _ _ z => by simp at z) e)
    · rw [Ypn, List.nil_append] at q
      exact hp p q (by rw [z]; exact hb)
  have DY : ∀ {H' : Hp}, H' D = none → FpOk Y [] H' D := fun {H'} hn => ⟨hn, Dne, Dfs, .inl (by rw [Yex]; exact List.mem_cons_self), Dcell, fun p q => absurd (show p ∈ ([] : List (Addr × Obj)) by rw [Ypn] at q; exact q) (by simp)⟩
  have pinD : ∀ {σ' : St} {H' : Hp} {s' : Shared} {its : Array Value} {n : Nat}, Inv Y [] σ' H' s' → H' D = none → s'.heap.get? D = some { cls := .type "list", data := .seq its n } → Inv Y [(D, { cls := .type "list", data := .seq its n })] σ' H' s' := fun {σ' H' s' its n} J' hn e => by
    refine J'.pins_of fun p hp => ?_
    have : p = (D, { cls := .type "list", data := .seq its n }) := by simpa using hp
    subst this
    exact ⟨e, hn, Dne, Dfs, fun v z => by
      have z' : Data.seq its n = Data.cell v := z
      cases z'⟩
  rw [← Yenv]
  obtain ⟨m0, w0⟩ := w0
  refine compLoop_any (fun m s' => ∃ i ys σ0 H' its n, Inv Y [(D, { cls := .type "list", data := .seq its n })] (σ0 :: σ) H' s' ∧ tn i s'.heap ∧ (∀ b ∈ fp, H' b = none) ∧ Vals ys its.toList ∧ W i m ys H') ?_ m0
    ⟨0, [], none, H₂, _, _, pinD I4 hDfresh (keep31 D _ hobjD), T.keep 0 _ _ st (fun b _ o e => keep31 b o e), fun b hb => (f2 b hb).1, .nil, w0⟩
  rintro m s' ⟨i, ys, σ0, H', its, n, J', st', fr', rv, w'⟩
  obtain ⟨hle, hW'⟩ := hW i m ys H' w'
  have hDn : H' D = none := (J'.pin (D, { cls := .type "list", data := .seq its n }) (by simp)).2.1
  have fpn : ∀ p ∈ [((D, { cls := .type "list", data := .seq its n }) : Addr × Obj)], p.1 ∉ fp := fun p hp => by
    have : p = (D, { cls := .type "list", data := .seq its n }) := by simpa using hp
    subst this; exact Dfp
  rcases hW' with ⟨stop, hf⟩ | ⟨go, step⟩
  ·
    have h9 := T.done Y Yprog Yw YK Yc i _ s' (σ0 :: σ) H' (fun _ _ => False) J' (fpY fr' fpn) st' stop
    rw [YA] at h9
    refine thn h9 fun r s5 ⟨hr, J5⟩ => ?_
    subst hr
    show RR (.ref D) s₃.heap.objs.size (.ok .next) s5
    have eD := (J5.pin (D, { cls := .type "list", data := .seq its n }) (by simp)).1
    have un : Un (frs X.stack) (D :: fp) H₂ H' s₃.heap s5.heap := by
      have := J5.base
      rw [Yfs, Yex, YH0, Ys0] at this
      exact this
    have hok5 : HOk X.prog X.w H' s5.heap := by
      have := J5.hok
      rw [Yprog, Yw] at this
      exact this
    have os5 : s5.os = s₃.os := by have := J5.os; rw [Ys0] at this; exact this
    have I5 : Inv X pins σ H' s5 := I3.call' os5 un hok5 J5.bare fun b hb => by
      rcases List.mem_cons.mp hb with e | hb
      · subst e; exact ⟨fD.2.2.2.1, fD.2.1, fD.2.2.2.2.1, fD.2.2.2.2.2⟩
      · obtain ⟨g0, g1, g2, g3, g4, g5⟩ := f2 b hb
        exact ⟨g3, g1, g4, g5⟩
    have I6 : Inv X pins σ (upd H' D (.lst ys)) s5 := I5.track hDn h0D fD.2.1 fD.2.2.2.2.1 fD.2.2.2.2.2 ⟨hle, its.toList, n, rv, by simpa using eD⟩
    obtain ⟨mC, hnC, _⟩ := J5.loc
    have eL : Y.env.locals = s₃.heap.objs.size := by rw [Yenv]; rfl
    have hCn : H' s₃.heap.objs.size = none := by have := J5.free; rw [eL] at this; exact this
    refine hRR D s₃.heap.objs.size ys H' s5 hDn hf I6 ?_ ⟨mC, by rw [← eL]; exact hnC⟩
    exact I3.fpOk (Nat.le_refl _) (by rw [upd_ne (Nat.ne_of_gt (Heap.lt_size hobjD))]; exact hCn)
  ·
    have h9 := T.item Y Yprog Yw YK Yc i _ s' (σ0 :: σ) H' (fun _ _ => False) J' (fpY fr' fpn) st' go
    rw [YA] at h9
    refine thn h9 fun r s5 ⟨u, hr, h5⟩ => ?_
    subst hr
    refine thn h5 fun _ s6 ⟨v, H6, J6, rv6, y6, st6, fr6⟩ => ?_
    have hDn6 : H6 D = none := (J6.pin (D, { cls := .type "list", data := .seq its n }) (by simp)).2.1
    have J6' := J6.pinned (fp := fp) (fpY fr6 fpn) (T.obj _ _ st6)
    have hst := step v H6 y6
    refine wpAny_assign_Name ?_
    have hst1 : ∀ Q', (∀ s7, Inv Y ([(D, { cls := .type "list", data := .seq its n })] ++ pinsAt fp s6.heap) (some v :: σ) H6 s7 → Q' () s7) → wpAny (model X.prog X.w) X.A (storeName Y.env x u) Q' (fun _ _ => False) s6 := fun Q' hQ' =>
      store_ok (i := 0) (σ := σ0 :: σ) J6' YN Y0 (.inl Yx) rv6 (fun s7 J7 => hQ' s7 J7) (.inr Yx)
    refine hst1 _ fun s7 J7 => ?_
    have h10 := hif' _ s7 (some v :: σ) H6 _ J7 hst
    rw [Yprog, Yw, YA, Yxe] at h10
    refine thn h10 fun b s8 ⟨H8, J8, q8⟩ => ?_
    have again : ∀ {s9 : Shared} {H9 : Hp} {ys' : List V} {its' : Array Value} {n' : Nat}, Inv Y [] (some v :: σ) H9 s9 → (∀ b ∈ fp, H9 b = none ∧ ∀ o, s6.heap.get? b = some o → s9.heap.get? b = some o) → H9 D = none →
        s9.heap.get? D = some { cls := .type "list", data := .seq its' n' } → Vals ys' its'.toList → (∃ m', m' < m ∧ W (i + 1) m' ys' H9) →
        ∃ m', m' < m ∧ ∃ i ys σ0 H' its n, Inv Y [(D, { cls := .type "list", data := .seq its n })] (σ0 :: σ) H' s9 ∧ tn i s9.heap ∧ (∀ b ∈ fp, H' b = none) ∧ Vals ys its.toList ∧ W i m' ys H' := fun {s9 H9 ys' its' n'} J9 hfp9 hD9 eD9 rv9 hw9 => by
      obtain ⟨m', hm, w9⟩ := hw9
      exact ⟨m', hm, i + 1, ys', some v, H9, its', n', pinD J9 hD9 eD9, T.keep _ _ _ st6 (fun b hb o e => (hfp9 b hb).2 o e), fun b hb => (hfp9 b hb).1, rv9, w9⟩
    have pinF : ∀ {σ9 : St} {H9 : Hp} {s9 : Shared}, Inv Y ([(D, { cls := .type "list", data := .seq its n })] ++ pinsAt fp s6.heap) σ9 H9 s9 → ∀ b ∈ fp, H9 b = none ∧ ∀ o, s6.heap.get? b = some o → s9.heap.get? b = some o := fun {σ9 H9 s9} J9 b hb => by
      obtain ⟨o, eo, _⟩ := T.obj _ _ st6 b hb
      have p := J9.pin (b, o) (List.mem_append_right _ (List.mem_append_right _ (mem_pinsAt hb eo)))
      exact ⟨p.2.1, fun o' e' => by rw [eo] at e'; cases e'; exact p.1⟩
    have pinL : ∀ {σ9 : St} {H9 : Hp} {s9 : Shared}, Inv Y ([(D, { cls := .type "list", data := .seq its n })] ++ pinsAt fp s6.heap) σ9 H9 s9 → s9.heap.get? D = some { cls := .type "list", data := .seq its n } ∧ H9 D = none := fun {σ9 H9 s9} J9 => by
      have p := J9.pin (D, { cls := .type "list", data := .seq its n }) (List.mem_append_right _ (List.mem_append_left _ (by simp)))
      exact ⟨p.1, p.2.1⟩
    cases b with
    | false =>
      show ∃ m', m' < m ∧ _
      have q8' : ∃ m', m' < m ∧ W (i + 1) m' ys H8 := q8
      obtain ⟨eD8, hD8⟩ := pinL J8
      exact again (J8.pins_of fun p hp => absurd hp (by simp)) (pinF J8) hD8 eD8 rv q8'
    | true =>
      show wpAny _ _ _ _ _ _
      have q8' : te (some v :: σ) H8 fun y H3 => ∃ m', m' < m ∧ W (i + 1) m' (ys ++ [y]) H3 := q8
      have h11 := he' _ s8 (some v :: σ) H8 _ J8 q8'
      rw [Yprog, Yw, YA, Yxe] at h11
      refine thn h11 fun yv s9 ⟨y, H9, J9, ry, q9⟩ => ?_
      obtain ⟨eD9, hD9⟩ := pinL J9
      have hz : its.size ≤ sizeLine := by have := rv.length; simp only [Array.length_toList] at this; omega
      refine wpAny_list_append_plain (hsz := hz) ⟨n, eD9⟩ fun h' hl' hsb' => ?_
      obtain ⟨n', eD'⟩ := hl'
      have J9' : Inv Y [] (some v :: σ) H9 s9 := J9.pins_of fun p hp => absurd hp (by simp)
      obtain ⟨g0, g1, g2, g3, g4, g5⟩ := DY hD9
      have J10 : Inv Y [] (some v :: σ) H9 { s9 with heap := h' } := J9'.turned (t' := s9.toks) (fun b o hb e => Heap.SameBut.keeps hsb' hb e) g0 g1 g3 g4 g5
      refine again J10 (fun b hb => ?_) hD9 eD' (by simpa using rv.append (Vals.cons' ry)) q9
      have p9 := pinF J9 b hb
      exact ⟨p9.1, fun o e => Heap.SameBut.keeps hsb' (fun z => Dfp (z ▸ hb)) (p9.2 o e)⟩
theorem comp_core {x : Str} {px pos : Pos} {scope : Scope} {elt iter : Expr} {ifs : List Expr} {tc : TT} {te : TE} {pins : List (Addr × Obj)} {σ : St} {H₂ : Hp} {s₂ : Shared} {it : Addr} {fp : List Addr} {tn : Nat → Heap → Prop} {J : It} {fin : List V → Hp → Prop}
    {W : Nat → Nat → List V → Hp → Prop} {RR : Value → Addr → Result → Shared → Prop} {E : Value → Shared → Prop}
    (ok : CompOk scope X.env.scope X.N x) (hc : X.calm = true) (hif : ∀ s H ex, PIfs (cxComp X x scope s H ex) ifs tc) (he : ∀ s H ex, PE (cxComp X x scope s H ex) elt te)
    (I2 : Inv X pins σ H₂ s₂) (T : Turn X.prog X.w X.K (.Name x px) J fp it tn) (st : tn 0 s₂.heap) (f2 : ∀ b ∈ fp, FpOk X pins H₂ b) (w0 : ∃ m, W 0 m [] H₂) (hW : CompW J tc te σ fin W)
    (hRR : ∀ D C ys H' s', H' D = none → fin ys H' → Inv X pins σ (upd H' D (.lst ys)) s' → FpOk X pins (upd H' D (.lst ys)) C → (∃ m, s'.heap.Ns C m) → RR (.ref D) C (.ok .next) s') :
    wpAny (model X.prog X.w) X.A (newList []) (fun acc s₃ => wpAny (model X.prog X.w) X.A (newFunctionEnv scope X.env.globals (closL scope.names X.env.cells []) [] X.env.qual none .none (some X.env)) (fun cenv s₄ =>
      codeAny (model X.prog X.w) X.A (.compStart (.ListComp elt [⟨.Name x px, iter, ifs, 0⟩] scope pos) 0 (.ref it) acc { cenv with scope := relabel scope X.env }) (RR acc cenv.locals) s₄) E s₃) E s₂ := by
  refine wpAny_newObj_type (wpAny_newFunctionEnv ok.nocell (by intro y hy; simp at hy) (fun h₁ hns₁ hsb₁ => ?_) ok.kind)
  have I3 : Inv X pins σ H₂ { s₂ with heap := s₂.heap.push { cls := .type "list", dict := none, data := .seq ([] : List Value).toArray } } := I2.kept (t' := s₂.toks) fun b o e => Heap.get?_push_of_some _ e
  have keep31 : ∀ b o, (s₂.heap.push { cls := .type "list", dict := none, data := .seq ([] : List Value).toArray }).get? b = some o → h₁.get? b = some o := fun b o e => Heap.SameBut.keeps hsb₁ (Nat.ne_of_lt (Heap.lt_size e)) (Heap.get?_push_of_some _ e)
  have keep23 : ∀ b o, s₂.heap.get? b = some o → (s₂.heap.push { cls := .type "list", dict := none, data := .seq ([] : List Value).toArray }).get? b = some o := fun b o e => Heap.get?_push_of_some _ e
  have hDfresh : H₂ s₂.heap.objs.size = none := I2.hok.fresh (Nat.le_refl _)
  have loop := comp_loop (RR := RR) (s₃ := { s₂ with heap := s₂.heap.push { cls := .type "list", dict := none, data := .seq ([] : List Value).toArray } }) (h₁ := h₁) (tk := s₂.toks + ([] : List (Str × Value)).length) (iter := iter) (pos := pos)
    ok hc hif he I3 T (T.keep 0 _ _ st fun b _ o e => keep23 b o e) f2 w0 hW hDfresh (I2.fpOk (Nat.le_refl _) hDfresh) I2.sz (Heap.get?_push_size _ rfl) (fun hb => by
      obtain ⟨o, e, _⟩ := T.obj 0 _ st _ hb
      exact Nat.lt_irrefl _ (Heap.lt_size e)) (by simpa using hns₁) keep31 hRR
  exact codeAny_compStart_list loop (T.self _ 0 _ _ _ (T.keep 0 _ _ st fun b _ o e => keep31 b o (keep23 b o e)) loop)
def tComp (wi : TI) (tc : TT) (te : TE) : TE := fun σ H Q => wi σ H fun J H1 => ∃ W : Nat → Nat → List V → Hp → Prop, (∃ m, W 0 m [] H1) ∧ CompW J tc te σ (fun ys H2 => ∀ p, H2 p = none → Q (.ref p) (upd H2 p (.lst ys))) W
theorem pe_comp {x : Str} {px pos : Pos} {scope : Scope} {elt iter : Expr} {ifs : List Expr} {wi : TI} {tc : TT} {te : TE} (ok : compOk scope X.env.scope X.N x = true) (hc : X.calm = true) (hi : PI X (.Name x px) iter wi)
    (hif : ∀ s H ex, PIfs (cxComp X x scope s H ex) ifs tc) (he : ∀ s H ex, PE (cxComp X x scope s H ex) elt te) (hs : ∀ v, foldedSetIterable iter X.env v = pure v := by intro _; rfl) :
    PE X (.ListComp elt [⟨.Name x px, iter, ifs, 0⟩] scope pos) (tComp wi tc te) := by
  intro pins s σ H Q I h
  have ok' := compOk_iff ok
  have hfree : ∀ y ∈ scope.names, y.2 = .free → ∃ c, X.env.cells.lookup y.1 = some c := fun y hy e => I.ok.has y.1 (ok'.free y hy e)
  rw [eval_ListComp]
  refine wpAny_comprehension_free (use := none) rfl hs (closure_is hfree) ok'.kind ok'.names (thn (hi pins s σ H _ I h) fun v s1 h1 => thn h1 fun itv s2 h2 => ?_)
  obtain ⟨it, fp, tn, J, H2, e, I2, T, st2, f2, W, w0, hW⟩ := h2
  subst e
  refine comp_core (RR := fun acc C => compPost (model X.prog X.w) X.A X.xe none (EP X pins σ Q) acc C) ok' hc hif he I2 T st2 f2 w0 hW fun D C ys H' s' hD fin I' fC hm => ?_
  obtain ⟨m, hm⟩ := hm
  refine ⟨m, hm, fun h' hsb => ?_⟩
  obtain ⟨g0, g1, g2, g3, g4, g5⟩ := fC
  exact ⟨.ref D, _, I'.turned (t' := s'.toks) (fun b o hb e => Heap.SameBut.keeps hsb hb e) g0 g1 g3 g4 g5, rfl, fin D hD⟩
def tCompS (i : Nat) (wi : TI) (tc : TT) (te : TE) : TS := fun D σ H => wi σ H fun J H1 => ∃ W : Nat → Nat → List V → Hp → Prop, (∃ m, W 0 m [] H1) ∧ CompW J tc te σ (fun ys H2 => ∀ p, H2 p = none → D.nx (σ.set i (some (.ref p))) (upd H2 p (.lst ys))) W
theorem ps_comp {i : Nat} {y x : Str} {py px pos spos : Pos} {scope : Scope} {elt iter : Expr} {ifs : List Expr} {wi : TI} {tc : TT} {te : TE} (hN : X.N.Nodup) (hiy : X.N[i]? = some y) (hy : X.env.scope.names.lookup y = some .local)
    (ok : compOk scope X.env.scope X.N x = true) (hc : X.calm = true) (hi : PI X (.Name x px) iter wi)
    (hif : ∀ s H ex, PIfs (cxComp X x scope s H ex) ifs tc) (he : ∀ s H ex, PE (cxComp X x scope s H ex) elt te)
    (hsw : swapsWith (.ListComp elt [⟨.Name x px, iter, ifs, 0⟩] scope pos) (some (.Name y py)) spos.line X.env = pure true := by rfl) (hs : ∀ v, foldedSetIterable iter X.env v = pure v := by intro _; rfl) :
    PS X (.Assign [.Name y py] (.ListComp elt [⟨.Name x px, iter, ifs, 0⟩] scope pos) spos) (tCompS i wi tc te) := by
  intro pins s σ H Dn I h
  have ok' := compOk_iff ok
  have hfree : ∀ y ∈ scope.names, y.2 = .free → ∃ c, X.env.cells.lookup y.1 = some c := fun y hy e => I.ok.has y.1 (ok'.free y hy e)
  rw [exec_Assign_Name_used _ _ _ _ hsw]
  refine wpAny_bind (wpAny_standAt (wpAny_bind ?_))
  show wpAny _ X.A (do let _ ← comprehension (.ListComp elt [⟨.Name x px, iter, ifs, 0⟩] scope pos) scope X.env _ (newList []) false (eval iter X.env) (some (assign (.Name y py) X.env))) _ _ s
  refine wpAny_bind (wpAny_mono (wpAny_comprehension_free (use := some (assign (.Name y py) X.env)) (Q := fun _ s' => SP X pins Dn .next s') rfl hs (closure_is hfree) ok'.kind ok'.names
    (thn (hi pins s σ H _ I h) fun v s1 h1 => thn h1 fun itv s2 h2 => ?_)) (fun _ s' hq => wpAny_pure (wpAny_pure hq)) fun _ _ e => e)
  obtain ⟨it, fp, tn, J, H2, e, I2, T, st2, f2, W, w0, hW⟩ := h2
  subst e
  refine comp_core (RR := fun acc C => compPost (model X.prog X.w) X.A X.xe (some (assign (.Name y py) X.env)) (fun _ s' => SP X pins Dn .next s') acc C) ok' hc hif he I2 T st2 f2 w0 hW fun D C ys H' s' hD fin I' fC hm => ?_
  obtain ⟨m, hm⟩ := hm
  show wpAny _ X.A (assign (.Name y py) X.env (.ref D)) _ _ _
  obtain ⟨g0, g1, g2, g3, g4, g5⟩ := fC
  refine wpAny_assign_Name (store_ok2 (i := i) (v := .ref D) I' hN hiy (.inl hy) rfl (fun s'' I'' hch => ?_) (.inr hy))
  obtain ⟨a, hsb, ha⟩ := hch
  have hCa : C ≠ a := by
    rcases ha with z | z
    · rw [z]; exact g1
    · exact fun z' => g4 _ _ z z'.symm
  refine ⟨m, hm.sameBut hsb hCa, fun h' hsb' => ?_⟩
  exact ⟨_, _, I''.turned (t' := s''.toks) (fun b o hb e => Heap.SameBut.keeps hsb' hb e) g0 g1 g3 g4 g5, fin D hD⟩
end
end L2
set_option Elab.async false
set_option linter.all false
set_option maxRecDepth 100000
namespace L2
open PySem PySem.Spec PyProof.Rows
theorem ObjOk.there {P : Program} {w : World} {H : Hp} {h : Heap} {a : Addr} {o : HO} (x : ObjOk P w H h a o) : ∃ ob, h.get? a = some ob := by
  cases o with
  | lst xs => obtain ⟨_, _, _, _, e⟩ := x; exact ⟨_, e⟩
  | tup xs => obtain ⟨_, _, _, ob, e, _⟩ := x; exact ⟨_, e⟩
  | dK kvs => obtain ⟨_, _, _, _, o, _, _, e, _⟩ := x; exact ⟨_, e⟩
  | dT kvs => obtain ⟨_, _, _, _, o, _, _, e, _⟩ := x; exact ⟨_, e⟩
  | set S n => obtain ⟨o, _, _, _, e, _⟩ := x; exact ⟨_, e⟩
  | ins C dx fs => obtain ⟨_, _, _, e, _⟩ := x; exact ⟨_, e⟩
  | own y => obtain ⟨_, e⟩ := x; exact ⟨_, e⟩
  | xd fs => obtain ⟨_, ⟨_, _, _, e, _⟩, _⟩ := x; exact ⟨_, e⟩
  | rng lo hi => obtain ⟨_, _, _, e⟩ := x; exact ⟨_, e⟩
  | frz ob u => obtain ⟨e, _⟩ := x; exact ⟨_, e⟩
  | tbl ps => exact ⟨_, show h.get? a = some _ from x⟩
  | met f y => exact ⟨_, show h.get? a = some _ from x⟩
  | ext φ => obtain ⟨_, e, _⟩ := x; exact e
structure Fly (outer : List Env) (H' : Hp) (h0 : Heap) (ea C : Addr) (h : Heap) : Prop where
  free : H' ea = none
  new : h0.get? ea = none
  fl : ∃ (B : Heap) (t : Addr), Heap.FlyingW B outer ea (.ref C) (.ref t) h ∧ ∀ b o, h.get? b = some o → (H' b ≠ none ∨ ∃ o', h0.get? b = some o') → b ∉ frs outer → B.get? b = some o
def CXE (P : Program) (w : World) : CXT := fun outer H s E e s' => ∃ ea C H', e = .ref ea ∧ s'.os = s.os ∧ AllBare s'.gens ∧ Un (frs outer) [] H H' s.heap s'.heap ∧ HOk P w H' s'.heap ∧ Fly outer H' s.heap ea C s'.heap ∧ E (.ref C) none H'
section
variable {P : Program} {w : World} {K : PySem.W.Frag} {mg : Str → Option Value} {base : Heap} {N : List Str} {qual : Str} {scope : Scope} {f : Addr} {cd : Value} {A : Around} {outer : List Env} {s0 : Shared} {H0 : Hp} {E : XK}
theorem raise_ok {pins : List (Addr × Obj)} {σ : St} {H : Hp} {s : Shared} {h' : Heap} {e C : Addr} {vs : List Value} (I : Inv (cxOf (CXE P w) P w K mg base N qual scope f cd A outer s0 H0 E) pins σ H s)
    (hx : Heap.MadeExcOf s.heap h' e (.ref C) vs) (hE : E (.ref C) none H) : (cxOf (CXE P w) P w K mg base N qual scope f cd A outer s0 H0 E).xe (.ref e) { s with heap := h' } := by
  have hfrs : ∀ b, b ∈ frs (envOfC qual scope s0.heap.objs.size f cd :: outer) → b = s0.heap.objs.size ∨ b ∈ frs outer := fun b hb => List.mem_cons.mp (I.stkSub b hb)
  have hB : ∀ b o, s.heap.get? b = some o → b ∉ frs (envOfC qual scope s0.heap.objs.size f cd :: outer) → (PySem.W.hideAll s.heap (frs (envOfC qual scope s0.heap.objs.size f cd :: outer))).get? b = some o := fun b o e n => PySem.W.hideAll_get _ e n
  show wpAny (model P w) (A.deeper (envOfC qual scope s0.heap.objs.size f cd)) (leaving (envOfC qual scope s0.heap.objs.size f cd) (.ref e)) (fun _ s'' => CXE P w outer H0 s0 E (.ref e) s'') (fun e' s'' => CXE P w outer H0 s0 E e' s'') { s with heap := h' }
  refine wpAny_leaves_madeW (base := PySem.W.hideAll s.heap (frs (envOfC qual scope s0.heap.objs.size f cd :: outer))) (h := s.heap) I.ok.frames rfl (fun b o q => PySem.W.of_hideAll _ q)
    (PySem.W.funFrames_hide I.stack fun env he a ha => List.mem_filterMap.mpr ⟨env, he, ha⟩) hx fun h'' t fl _ _ sm => ?_
  have new : s.heap.get? e = none := hx.new
  have sm' : s.heap.UpToSlots h'' := (Heap.UpToSlots.of_keeps hx.keeps).trans sm
  have stays := fl.1
  have keepB : ∀ b o, s.heap.get? b = some o → b ∉ frs (envOfC qual scope s0.heap.objs.size f cd :: outer) → h''.get? b = some o := fun b o q n => stays b o (hB b o q n)
  have notL : ∀ b o, s0.heap.get? b = some o → b ∉ frs outer → b ∉ frs (envOfC qual scope s0.heap.objs.size f cd :: outer) := fun b o q n hb => by
    rcases hfrs b hb with z | z
    · exact Nat.ne_of_lt (Heap.lt_size q) z
    · exact n z
  have trk : ∀ b u, H b = some u → b ∉ frs (envOfC qual scope s0.heap.objs.size f cd :: outer) := fun b u q hb => by
    have := I.stkFree b hb
    rw [q] at this; cases this
  have there0 : ∀ b o, s0.heap.get? b = some o → ∃ o', s.heap.get? b = some o' := fun b o q => I.base.there b o q (by show b ∉ []; simp)
  refine ⟨e, C, H, rfl, I.os, I.bare, ⟨fun b o q n hb _ => ?_, fun b o q n hb _ => ?_, fun b o q n hx' => I.base.free b o q n (by show b ∉ []; simp), fun b o q _ => ?_, I.base.tups, I.base.frzs, I.base.tbls⟩, fun a o q => ?_, ⟨?_, ?_, ?_⟩, hE⟩
  · exact keepB b o (I.base.keep b o q n hb (by show b ∉ []; simp)) (notL b o q hb)
  · obtain ⟨sl, e1⟩ := I.base.slot b o q n hb (by show b ∉ []; simp)
    obtain ⟨_, o', ho', hd⟩ := I.funs.mem hb
    rw [e1] at ho'; cases ho'
    obtain ⟨sl', e2⟩ := sm' b _ e1 hd
    exact ⟨sl', e2⟩
  · obtain ⟨o', e1⟩ := there0 b o q
    by_cases hb : b ∈ frs (envOfC qual scope s0.heap.objs.size f cd :: outer)
    · obtain ⟨_, o2, ho2, hd⟩ := I.stack.mem hb
      obtain ⟨sl', e2⟩ := sm' b _ ho2 hd
      exact ⟨_, e2⟩
    · exact ⟨o', keepB b o' e1 hb⟩
  · refine (I.hok a o q).stay (fun b u hb z => keepB b u z ?_) (fun _ z => z) fun _ _ z => z
    rcases hb with rfl | hb
    · exact trk b o q
    · exact trk b _ hb
  · cases q : H e with
    | none => rfl
    | some o =>
      obtain ⟨ob, z⟩ := (I.hok e o q).there
      rw [new] at z; cases z
  · cases q : s0.heap.get? e with
    | none => rfl
    | some o =>
      obtain ⟨ob, z⟩ := there0 e o q
      rw [new] at z; cases z
  · refine ⟨_, t, fl, fun b o q hb n => ?_⟩
    have key : ∃ o', s.heap.get? b = some o' ∧ b ∉ frs (envOfC qual scope s0.heap.objs.size f cd :: outer) := by
      rcases hb with z | ⟨o', z⟩
      · cases r : H b with
        | none => exact absurd r z
        | some u =>
          obtain ⟨ob, y⟩ := (I.hok b u r).there
          exact ⟨ob, y, trk b u r⟩
      · obtain ⟨o2, y⟩ := there0 b o' z
        exact ⟨o2, y, notL b o' z n⟩
    obtain ⟨o', y, n'⟩ := key
    have := keepB b o' y n'
    rw [q] at this; cases this
    exact hB b o y n'
end
structure ErrCls (K : PySem.W.Frag) (C : Addr) : Prop where
  ex : PySem.W.excIn K C [.type "ValueError", .type "Exception", .type "BaseException", .type "object"] "ValueError.__new__" = true
theorem ErrCls.obj {K : PySem.W.Frag} {C : Addr} (c : ErrCls K C) {h : Heap} (X : K.In h) : ∃ tl N nm q bs hdct sn sub ab col dd k0 k1 k2 k3 k5 mN, h.get? C = some (excClassObj nm q C N bs tl hdct sn sub ab col dd k0 k1 k2 k3 k5 "ValueError.__new__") ∧ h.Ns N mN ∧ mN "__init__" = none ∧
    OwnTail h [.type "ValueError", .type "Exception", .type "BaseException", .type "object"] tl := by
  have q := c.ex
  unfold PySem.W.excIn at q
  split at q
  · rename_i dd cd sl ho
    split at q
    · rename_i C' bm k0 k1 k2 k3 n k5 hm hs
      simp only [Bool.and_eq_true, beq_iff_eq, Bool.not_eq_true'] at q
      obtain ⟨⟨⟨⟨⟨rfl, rfl⟩, hdel⟩, ht⟩, hok⟩, hni⟩ := q
      obtain ⟨nm, bs, mro, ns, qn, hd, sn, sub, ab, col, del⟩ := cd
      dsimp only at hm hdel hok hni
      subst hm hdel
      have hsl : sl = #[k0, k1, k2, k3, some (.builtin "ValueError.__new__"), k5] := by
        obtain ⟨l⟩ := sl
        simp only at hs
        rw [hs]
      subst hsl
      exact ⟨bm, ns, nm, qn, bs, hd, sn, sub, ab, col, dd, k0, k1, k2, k3, k5, _, X _ _ ho, .of_isNs (PySem.W.isNs_of_in X hok), PySem.W.nsMap_none_of_in X hok hni, PySem.W.tail_of_in X ht⟩
    · cases q
  · cases q
def tRaise (t : TA) (C : Addr) (E : XK) : TS := fun _ σ H => t σ H fun vs H1 => vs.length ≤ sizeLine ∧ E (.ref C) none H1
section
variable {P : Program} {w : World} {K : PySem.W.Frag} {mg : Str → Option Value} {base : Heap} {N : List Str} {qual : Str} {scope : Scope} {f : Addr} {cd : Value} {A : Around} {outer : List Env} {s0 : Shared} {H0 : Hp} {E : XK}
theorem ps_raise {x : Str} {np cpos pos : Pos} {e₀ : Expr} {rest : List Expr} {t : TA} {C : Addr} (c : ErrCls K C) (hg : Gl (cxOf (CXE P w) P w K mg base N qual scope f cd A outer s0 H0 E) x) (hm : mg x = some (.ref C)) (hh : A.handled = none)
    (ha : PA (cxOf (CXE P w) P w K mg base N qual scope f cd A outer s0 H0 E) (e₀ :: rest) t) (hd : (x == ("__debug__" : Str)) = false := by decide)
    (he : starEach (e₀ :: rest) (envOfC qual scope s0.heap.objs.size f cd) = (false, eval e₀ (envOfC qual scope s0.heap.objs.size f cd)) :: starEach rest (envOfC qual scope s0.heap.objs.size f cd) := by rfl)
    (hplain : (backTo cpos (starEach rest (envOfC qual scope s0.heap.objs.size f cd))).any (·.1) = false := by rfl) :
    PS (cxOf (CXE P w) P w K mg base N qual scope f cd A outer s0 H0 E) (.Raise (some (.Call (.Name x np) (e₀ :: rest) [] cpos)) none pos) (tRaise t C E) := by
  intro pins s σ H D I h
  obtain ⟨tl, Na, nm, q, bs, hdct, sn, sub, ab, col, dd, k0, k1, k2, k3, k5, mN, hC, hN, hni, T⟩ := c.obj I.mod.kin
  refine wpAny_Raise_call_subU (C := C) (nm := nm) (q := q) (N := Na) (bs := bs) (bm := tl) (hdct := hdct) (sn := sn) (sub := sub) (ab := ab) (col := col) (dd := dd) (k0 := k0) (k1 := k1) (k2 := k2) (k3 := k3) (k5 := k5)
    PySem.F.excBase_ValueError (by decide) PySem.F.excBase_ValueError (mN := mN) (T.hasType PySem.F.excBase_ValueError.hasBase) hh (by
      show (backTo cpos (starEach (e₀ :: rest) (envOfC qual scope s0.heap.objs.size f cd))).any (·.1) = false
      rw [he]; show (false || (backTo cpos (starEach rest (envOfC qual scope s0.heap.objs.size f cd))).any (·.1)) = false; rw [hplain]; rfl) hni (ld_glob I hg hm ⟨rfl, ?_⟩ hd)
  have h2 := ha cpos pins s σ H _ I h
  show wpAny (model P w) _ (evalArgs (.ref C) true (backTo cpos (starEach (e₀ :: rest) (envOfC qual scope s0.heap.objs.size f cd))) []) _ _ s
  have h3 : wpAny (model P w) (A.deeper (envOfC qual scope s0.heap.objs.size f cd)) (spliced (backTo cpos (starEach (e₀ :: rest) (envOfC qual scope s0.heap.objs.size f cd)))) _ _ s := h2
  rw [he] at h3 ⊢
  refine Calls.evalArgs_plain (wpAny_mono h3 (fun vs s₂ h₂ => ?_) fun _ _ y => y)
  obtain ⟨xs, H1, I1, r, hz, hE⟩ := h₂
  have keep : ∀ b o, base.get? b = some o → s₂.heap.get? b = some o := I1.bk
  exact ⟨rfl, by rw [← r.length]; exact hz, keep _ _ hC, hN.keeps keep, T.keeps keep, fun h' e hx => raise_ok I1 hx hE⟩
end
section
variable {X : Cx}
def XP (X : Cx) (pins : List (Addr × Obj)) (Ex : St → Value → Hp → Prop) (ev : Value) (s' : Shared) : Prop := ∃ σ H s, Inv X pins σ H s ∧ CXE X.prog X.w X.stack H s (fun c _ H' => Ex σ c H') ev s'
abbrev TEX := St → Hp → VK → (Value → Hp → Prop) → Prop
def PEX (X : Cx) (e : Expr) (t : TEX) : Prop :=
  ∀ (pins : List (Addr × Obj)) (s : Shared) (σ : St) (H : Hp) (Q : VK) (E : Value → Hp → Prop), Inv X pins σ H s → t σ H Q E → wpAny (model X.prog X.w) X.A (eval e X.env) (EP X pins σ Q) (XP X pins fun σ' c H' => σ' = σ ∧ E c H') s
abbrev TSX := Ends → (St → Value → Hp → Prop) → St → Hp → Prop
def PSX (X : Cx) (st : List Stmt) (t : TSX) : Prop :=
  ∀ (pins : List (Addr × Obj)) (s : Shared) (σ : St) (H : Hp) (D : Ends) (Ex : St → Value → Hp → Prop), Inv X pins σ H s → t D Ex σ H → wpAny (model X.prog X.w) X.A (execs st X.env) (SP X pins D) (XP X pins Ex) s
variable {k : Nat} {f C : Addr} {fd : FuncData} {ps : List Str} {sp : Sp} {dvs : List V} {ds : List Value} {x : Str} {p pos : Pos} {e : Expr} {es : List Expr} {t : TA} {CX : CXT} {E : XK}
theorem run_fnX {pins : List (Addr × Obj)} {σ : St} {H : Hp} {s : Shared} {Q : VK} {us : List Value} {vs : List V} {E' : Value → Shared → Prop} (F : FnOk X.prog X.w X.K X.mg X.base CX k f fd ps sp) (hr : Room k X.A) (hb : Binds X.K fd ps ds) (hd : Vals dvs ds)
    (I : Inv X pins σ H s) (r : Vals vs us) (h : sp (vs ++ dvs) H Q E) (hx : ∀ e s', CX X.stack H s E e s' → E' e s') : wpAny (model X.prog X.w) X.A (call (.ref f) us) (EP X pins σ Q) E' s := by
  have r2 : Vals (vs ++ dvs) (us ++ ds) := r.append hd
  have hl : (us ++ ds).length = ps.length := by rw [← r2.length]; exact F.len _ _ _ _ h
  refine wpAny_call (codeAny_mono (F.run X.A X.stack s H ⟨us, []⟩ (us ++ ds) (vs ++ dvs) Q E hr I.env0 (hb s us I.kIn hl) r2 h) fun r s' hq => ?_)
  cases r with
  | error e => exact hx e s' hq
  | ok fl =>
    cases fl with
    | ret u => exact I.after hq
    | next => exact False.elim hq
    | brk => exact False.elim hq
    | cont => exact False.elim hq
def tRetX (te : TEX) : TSX := fun D Ex σ H => te σ H D.rt (Ex σ)
theorem psx_ret {e : Expr} {te : TEX} {pos : Pos} (he : PEX X e te) : PSX X [.Return (some e) pos] (tRetX te) := by
  intro pins s σ H D Ex I h
  refine wpAny_execs_cons (wpAny_Return_some (wpAny_mono (he pins s σ H _ _ I h) (fun v s1 ⟨y, H1, I1, r1, q1⟩ => ⟨y, σ, H1, I1, r1, q1⟩) fun ev s' hq => ?_))
  obtain ⟨σ', H', s2, I2, ea, C, H3, h1, h2, h3, h4, h5, h6, e1, h7⟩ := hq
  subst e1
  exact ⟨σ', H', s2, I2, ea, C, H3, h1, h2, h3, h4, h5, h6, h7⟩
end
end L2
namespace L2
open PySem PySem.Spec PyProof.Rows
section
variable {X : Cx}
def cxHand (X : Cx) (ea : Addr) : Cx := { X with A := X.A.mark (some (.ref ea)), calm := false, xe := fun _ _ => False }
theorem Inv.hand {pins : List (Addr × Obj)} {σ : St} {H : Hp} {s : Shared} (I : Inv X pins σ H s) (ea : Addr) : Inv (cxHand X ea) pins σ H s :=
  ⟨⟨I.ok.mod, I.ok.kind, I.ok.glob, I.ok.blt, I.ok.above, I.ok.inj, I.ok.has, I.ok.cab, fun z => absurd (show false = true from z) (by decide), I.ok.frames, I.ok.stk, I.ok.exf, I.ok.bs, I.ok.bsz, I.ok.noex, I.ok.exfs, I.ok.funs, I.ok.frf⟩,
    I.os, I.bare, I.base, I.loc, I.cell, I.free, I.freeC, I.pin, I.hok, I.len⟩
theorem Inv.unhand {ea : Addr} {pins : List (Addr × Obj)} {σ : St} {H : Hp} {s : Shared} (ok : X.Ok) (I : Inv (cxHand X ea) pins σ H s) : Inv X pins σ H s :=
  ⟨ok, I.os, I.bare, I.base, I.loc, I.cell, I.free, I.freeC, I.pin, I.hok, I.len⟩
theorem Inv.namesGone {pins : List (Addr × Obj)} {σ : St} {H : Hp} {s : Shared} {h' : Heap} {m' : Str → Option Value} {tk : Nat} (I : Inv X pins σ H s) (hn : h'.Ns X.env.locals m') (hs : Heap.SameBut X.env.locals s.heap h') :
    Inv X pins (σ.map fun _ => none) H { s with heap := h', toks := tk } := by
  have neL : ∀ b o, X.s₀.heap.get? b = some o → b ≠ X.env.locals := fun b o e => Nat.ne_of_lt (Nat.lt_of_lt_of_le (Heap.lt_size e) I.ok.above)
  refine ⟨I.ok, I.os, I.bare, ⟨fun b o e n hb hx => ?_, fun b o e n hb hx => ?_, I.base.free, fun b o e hx => ?_, I.base.tups, I.base.frzs, I.base.tbls⟩, ⟨m', hn, fun j y v e1 e2 e3 => ?_⟩, fun y c e => ?_, I.free, I.freeC, fun p hp => ?_, fun b u e => ?_, ?_⟩
  · exact (hs.2 b (neL b o e)).trans (I.base.keep b o e n hb hx)
  · obtain ⟨sl, e1⟩ := I.base.slot b o e n hb hx
    exact ⟨sl, (hs.2 b (neL b o e)).trans e1⟩
  · obtain ⟨o', e1⟩ := I.base.there b o e hx
    exact ⟨o', (hs.2 b (neL b o e)).trans e1⟩
  · exfalso
    rw [List.getElem?_map] at e2
    cases q : σ[j]? with
    | none => rw [q] at e2; cases e2
    | some z => rw [q] at e2; cases e2
  · obtain ⟨v, z⟩ := I.cell y c e
    exact ⟨v, z.sameBut hs (I.cne y c e)⟩
  · obtain ⟨e, n, ne, nf, d⟩ := I.pin p hp
    exact ⟨(hs.2 p.1 ne).trans e, n, ne, nf, d⟩
  · refine (I.hok b u e).stay (fun c v hc q => (hs.2 c ?_).trans q) (fun _ q => q) fun _ _ q => q
    rintro rfl
    rcases hc with z | hc
    · rw [← z, I.free] at e; cases e
    · rw [I.free] at hc; cases hc
  · rw [List.length_map]; exact I.len
theorem land {pins : List (Addr × Obj)} {σ : St} {H H' : Hp} {s s' s'' : Shared} {B : Heap} (I : Inv X pins σ H s) (os : s'.os = s.os) (un : Un (frs X.stack) [] H H' s.heap s'.heap) (hok : HOk X.prog X.w H' s'.heap)
    (KB : ∀ b o, s'.heap.get? b = some o → (H' b ≠ none ∨ ∃ o', s.heap.get? b = some o') → b ∉ frs X.stack → B.get? b = some o) (st : B.StaysIn s''.heap) (sm : s'.heap.UpToSlots s''.heap) (os'' : s''.os = s'.os) (bare : AllBare s''.gens) : Inv X pins σ H' s'' := by
  have fr : ∀ b ∈ frs X.stack, ∃ o sl, s.heap.get? b = some o ∧ (∀ vs, o.data ≠ .fields vs) ∧ H b = none ∧ s'.heap.get? b = some { o with slots := sl } ∧ H' b = none := fun b hb => by
    obtain ⟨_, o, ho, hd⟩ := I.stack.mem hb
    have hn := I.stkFree b hb
    obtain ⟨sl, e⟩ := un.slot b o ho hn hb (by simp)
    exact ⟨o, sl, ho, hd, hn, e, un.free b o ho hn (by simp)⟩
  refine I.call' (os''.trans os) (ch := []) ⟨fun b o e n hb hx => ?_, fun b o e n hb hx => ?_, un.free, fun b o e hx => ?_, un.tups, un.frzs, un.tbls⟩ (fun a o e => ?_) bare (fun b hb => absurd hb (by simp))
  · exact st b o (KB b o (un.keep b o e n hb hx) (.inr ⟨o, e⟩) hb)
  · obtain ⟨o1, sl, e1, hd, _, e2, _⟩ := fr b hb
    rw [e] at e1; cases e1
    obtain ⟨sl', e3⟩ := sm b _ e2 hd
    exact ⟨sl', e3⟩
  · by_cases hb : b ∈ frs X.stack
    · obtain ⟨o1, sl, e1, hd, _, e2, _⟩ := fr b hb
      obtain ⟨sl', e3⟩ := sm b _ e2 hd
      exact ⟨_, e3⟩
    · obtain ⟨o', e1⟩ := un.there b o e hx
      exact ⟨o', st b o' (KB b o' e1 (.inr ⟨o, e⟩) hb)⟩
  · have nf : ∀ b u, H' b = some u → b ∉ frs X.stack := fun b u q hb => by
      obtain ⟨_, _, _, _, _, _, z⟩ := fr b hb
      rw [q] at z; cases z
    refine (hok a o e).stay (fun b u hb q => ?_) (fun _ q => q) fun _ _ q => q
    rcases hb with rfl | hb
    · exact st b u (KB b u q (.inl (by rw [e]; simp)) (nf b o e))
    · exact st b u (KB b u q (.inl (by rw [hb]; simp)) (nf b _ hb))
structure Air (X : Cx) (pins : List (Addr × Obj)) (σ : St) (H' : Hp) (ea C : Addr) (s'' : Shared) : Prop where
  ex : ∃ (H : Hp) (s s' : Shared) (B : Heap) (t : Addr), Inv X pins σ H s ∧ s'.os = s.os ∧ Un (frs X.stack) [] H H' s.heap s'.heap ∧ HOk X.prog X.w H' s'.heap ∧
    (∀ b o, s'.heap.get? b = some o → (H' b ≠ none ∨ ∃ o', s.heap.get? b = some o') → b ∉ frs X.stack → B.get? b = some o) ∧ Heap.FlyingW B X.stack ea (.ref C) (.ref t) s''.heap ∧ s'.heap.UpToSlots s''.heap ∧ s''.os = s'.os ∧ AllBare s''.gens ∧ s.heap.get? ea = none ∧ H' ea = none
theorem Air.inv {pins : List (Addr × Obj)} {σ : St} {H' : Hp} {ea C : Addr} {s'' : Shared} (a : Air X pins σ H' ea C s'') : Inv X pins σ H' s'' := by
  obtain ⟨H, s, s', B, t, I, os, un, hok, KB, fl, sm, os'', bare, _, _⟩ := a.ex
  exact land I os un hok KB fl.1 sm os'' bare
theorem Air.obj {pins : List (Addr × Obj)} {σ : St} {H' : Hp} {ea C : Addr} {s'' : Shared} (a : Air X pins σ H' ea C s'') : ∃ ob, s''.heap.get? ea = some ob ∧ ob.cls = .ref C := by
  obtain ⟨H, s, s', B, t, I, os, un, hok, KB, fl, sm, os'', bare, _, _⟩ := a.ex
  exact fl.there
theorem Air.free {pins : List (Addr × Obj)} {σ : St} {H' : Hp} {ea C : Addr} {s'' : Shared} (a : Air X pins σ H' ea C s'') : H' ea = none := by
  obtain ⟨H, s, s', B, t, I, os, un, hok, KB, fl, sm, os'', bare, _, z⟩ := a.ex
  exact z
theorem Air.again {pins : List (Addr × Obj)} {σ : St} {H' : Hp} {ea C : Addr} {s'' : Shared} {M : Model} {A : Around} {E : Value → Shared → Prop} {Q : Unit → Shared → Prop} (a : Air X pins σ H' ea C s'')
    (hQ : ∀ h', Air X pins σ H' ea C { s'' with heap := h' } → Q () { s'' with heap := h' }) : wpAny M A (setFlight (.ref ea) none) Q E s'' := by
  obtain ⟨H, s, s', B, t, I, os, un, hok, KB, fl, sm, os'', bare, n1, n2⟩ := a.ex
  exact lands_againW fl fun h' fl' sm' => hQ h' ⟨H, s, s', B, t, I, os, un, hok, KB, fl', sm.trans sm', os'', bare, n1, n2⟩
def ErrO (ea C : Addr) : HO := .ext fun h => ∃ ob, h.get? ea = some ob ∧ ob.cls = .ref C
theorem errO_ok {P : Program} {w : World} {H : Hp} {h : Heap} {ea C : Addr} (e : ∃ ob, h.get? ea = some ob ∧ ob.cls = .ref C) : ObjOk P w H h ea (ErrO ea C) := by
  obtain ⟨ob, e1, e2⟩ := e
  exact ⟨⟨ob, e1, e2⟩, ⟨ob, e1⟩, fun h1 h2 ⟨o, q1, q2⟩ k => ⟨o, k o q1, q2⟩⟩
theorem Inv.track' {pins : List (Addr × Obj)} {σ : St} {H : Hp} {s : Shared} {D : Addr} {o : HO} (I : Inv X pins σ H s) (hn : H D = none) (h0 : X.s₀.heap.get? D = none) (hL : D ≠ X.env.locals)
    (hc : ∀ x c, X.env.cells.lookup x = some c → c ≠ D) (hp : ∀ p ∈ X.pn ++ pins, p.1 ≠ D) (new : ObjOk X.prog X.w (upd H D o) s.heap D o) : Inv X pins σ (upd H D o) s := by
  have ne : ∀ b u, H b = some u → b ≠ D := fun b u e => ne_of_none e hn
  refine ⟨I.ok, I.os, I.bare, ⟨I.base.keep, I.base.slot, fun b u e n hx => ?_, I.base.there, fun b xs e => ?_, fun b u xs e => ?_, fun b ps e => ?_⟩, I.loc, I.cell, ?_, fun x c e => ?_, fun p q => ?_, fun b u e => ?_, I.len⟩
  · rw [upd_ne (fun z => by rw [z, h0] at e; cases e)]
    exact I.base.free b u e n hx
  · have e' := I.base.tups b xs e
    rw [upd_ne (ne b _ e')]; exact e'
  · have e' := I.base.frzs b u xs e
    rw [upd_ne (ne b _ e')]; exact e'
  · obtain ⟨more, e'⟩ := I.base.tbls b ps e
    exact ⟨more, by rw [upd_ne (ne b _ e')]; exact e'⟩
  · rw [upd_ne (Ne.symm hL)]; exact I.free
  · rw [upd_ne (hc x c e)]; exact I.freeC x c e
  · obtain ⟨a1, a2, a3, a4, a5⟩ := I.pin p q
    exact ⟨a1, by rw [upd_ne (hp p q)]; exact a2, a3, a4, a5⟩
  · by_cases hb : b = D
    · subst hb; rw [upd_same] at e; cases e; exact new
    · rw [upd_ne hb] at e
      exact (I.hok b u e).stay (fun c v _ q => q) (fun c q => by rw [upd_ne (ne c _ q)]; exact q) fun c xs q => by rw [upd_ne (ne c _ q)]; exact q
theorem Air.track {pins : List (Addr × Obj)} {σ : St} {H' : Hp} {ea C : Addr} {s'' : Shared} (a : Air X pins σ H' ea C s'') (hex : X.ex = []) : Inv X pins σ (upd H' ea (ErrO ea C)) s'' := by
  have J := a.inv
  have ob := a.obj
  obtain ⟨H, s, s', B, t, I, os, un, hok, KB, fl, sm, os'', bare, n1, n2⟩ := a.ex
  refine J.track' n2 ?_ (fun z => ?_) (fun x c e z => ?_) (fun p hp z => ?_) (errO_ok ob)
  · cases q : X.s₀.heap.get? ea with
    | none => rfl
    | some o =>
      obtain ⟨o', e⟩ := I.base.there ea o q (by rw [hex]; simp)
      rw [n1] at e; cases e
  · obtain ⟨m, ⟨o, _, _, ho, _⟩, _⟩ := I.loc
    rw [← z, n1] at ho; cases ho
  · obtain ⟨v, o, ho, _⟩ := I.cell x c e
    rw [z, n1] at ho; cases ho
  · have e := (I.pin p hp).1
    rw [z, n1] at e; cases e
def PH (X : Cx) (hs : List ExceptHandler) (th : Addr → TS) : Prop :=
  ∀ (pins : List (Addr × Obj)) (σ : St) (H : Hp) (ea C : Addr) (s : Shared) (D : Ends), Air X pins σ H ea C s → th C D σ H → wpAny (model X.prog X.w) X.A (handleBy (.ref ea) X.env hs) (SP X pins D) X.xe s
def excMiss (K : PySem.W.Frag) (C C' : Addr) : Bool := match K.lookup C with
  | some ⟨.type "type", _, .cls cd, _⟩ => !(cd.mro.contains (.ref C'))
  | _ => false
def thCons (K : PySem.W.Frag) (C' : Addr) (i : Nat) (ts : TS) (th : Addr → TS) : Addr → TS := fun C D σ H =>
  (C = C' ∧ ∀ ea, H ea = none → ts { nx := fun _ _ => False, rt := D.rt } (σ.set i (some (.ref ea))) (upd H ea (ErrO ea C))) ∨ (C ≠ C' ∧ ErrCls K C ∧ excMiss K C C' = true ∧ th C D σ H)
theorem ph_nil : PH X [] (fun _ _ _ _ => False) := fun _ _ _ _ _ _ _ _ h => h.elim
theorem ph_cons {x n : Str} {np hpos : Pos} {b₀ : Stmt} {suite : List Stmt} {rest : List ExceptHandler} {C' : Addr} {i : Nat} {ts : TS} {th : Addr → TS} (hex : X.ex = []) (hN : X.N.Nodup) (hi : X.N[i]? = some n) (hn : X.env.scope.names.lookup n = some .local)
    (hg : Gl X x) (hm : X.mg x = some (.ref C')) (c' : ErrCls X.K C') (hs : ∀ ea, PSs (cxHand X ea) (b₀ :: suite) ts) (hr : PH X rest th) (hd : (x == ("__debug__" : Str)) = false := by decide) :
    PH X (.ExceptHandler (some (.Name x np)) (some n) (b₀ :: suite) hpos :: rest) (thCons X.K C' i ts th) := by
  intro pins σ H ea C s D a h
  have I := a.inv
  refine wpAny_handleBy_cons (codeAny_handlers_test ?_) (by intro q; cases q)
  refine ld_glob (X := cxHand X ea) (I.hand ea) hg hm ?_ hd
  obtain ⟨ob, hob, hcls⟩ := a.obj
  rcases h with ⟨rfl, h⟩ | ⟨hne, c, hmiss, h⟩
  · obtain ⟨tl, Na, nm, q, bs, hdct, sn, sub, ab, col, dd, k0, k1, k2, k3, k5, mN, hC, hN', hni, T⟩ := c'.obj I.kIn
    obtain ⟨hp, g, d, tk, os⟩ := s
    refine wpAny_excMatches_sub_self hC hob hcls (T.hasType PySem.F.excBase_ValueError.hasBase) ?_
    show codeAny _ _ _ _ _
    refine codeAny_handlers_suite_as (a.again fun h' a' => ?_)
    have J := (a'.track hex).hand ea
    refine store_ok (i := i) (v := .ref ea) (X := cxHand X ea) J hN hi (.inl hn) rfl (fun s2 J2 => ?_) (.inr hn)
    refine wpAny_mono (hs ea pins s2 _ _ { nx := fun _ _ => False, rt := D.rt } J2 (h ea a'.free)) (fun f s3 q3 => ?_) fun _ _ z => False.elim z
    cases f with
    | next => obtain ⟨_, _, _, z⟩ := q3; exact False.elim z
    | brk => obtain ⟨_, _, _, z⟩ := q3; exact False.elim z
    | cont => obtain ⟨_, _, _, z⟩ := q3; exact False.elim z
    | ret u =>
      obtain ⟨v, σ', H'', J3, rv, q⟩ := q3
      obtain ⟨m, hnm, _⟩ := J3.loc
      have K3 := J3.unhand I.ok
      show wpAny _ _ _ _ _ _
      refine wpAny_nameGoes hn hnm (by rw [I.ok.kind]; rfl) fun h4 m4 hn4 hs4 => ?_
      exact ⟨v, _, H'', K3.namesGone hn4 hs4, rv, q⟩
  · obtain ⟨tl, Na, nm, q, bs, hdct, sn, sub, ab, col, dd, k0, k1, k2, k3, k5, mN, hC, hN', hni, T⟩ := c.obj I.kIn
    obtain ⟨tl', Na', nm', q', bs', hdct', sn', sub', ab', col', dd', k0', k1', k2', k3', k5', mN', hC', hN2, hni', T'⟩ := c'.obj I.kIn
    obtain ⟨hp, g, d, tk, os⟩ := s
    have miss : (Value.ref C :: tl).contains (.ref C') = false := by
      unfold excMiss at hmiss
      split at hmiss
      · rename_i dd2 cd2 sl2 ho
        have e := I.kIn _ _ ho
        have e2 : hp.get? C = some ⟨.type "type", dd2, .cls cd2, sl2⟩ := e
        rw [hC] at e2
        unfold excClassObj at e2
        cases e2
        simpa using hmiss
      · cases hmiss
    have hcB : (Value.ref C' :: tl').contains (.type "BaseException") = true := by rw [List.contains_cons, T'.hasType PySem.F.excBase_ValueError.hasBase, Bool.or_true]
    have f := tc_notTuple
    have key : ∀ Q : Bool → Shared → Prop, Q false ⟨hp, g, d, tk, os⟩ → wpAny (model X.prog X.w) (cxHand X ea).A (excMatches (.ref ea) (.ref C')) Q (notedBy (model X.prog X.w) (X.A.mark (some (.ref ea))) X.env (cameBackBy (model X.prog X.w) X.A X.env X.xe)) ⟨hp, g, d, tk, os⟩ := fun Q hq => by
      unfold excMatches
      repeat (first | (with_reducible refine wpAny_loadPart_at hob ?_; rw [hcls]) | with_reducible refine wpAny_loadPart_at hC' ?_ | (with_reducible refine wpAny_isSubtype_exc hC' ?_; rw [hcB]) | (with_reducible refine wpAny_isSubtype_exc hC ?_; rw [miss]) | wp_step)
      exact hq
    refine key _ ?_
    exact hr pins σ H ea C _ D a h
def tTry (tb : TSX) (th : Addr → TS) : TS := fun D σ H => tb D (fun σ' c H' => ∃ C, c = .ref C ∧ th C D σ' H') σ H
theorem ps_try {body : List Stmt} {h₀ : ExceptHandler} {hs : List ExceptHandler} {pos : Pos} {tb : TSX} {th : Addr → TS} (hst : X.stack = X.env :: X.outer) (hfr : X.env.frame = some X.env.locals) (hb : PSX X body tb) (hh : PH X (h₀ :: hs) th) :
    PS X (.Try body (h₀ :: hs) [] [] pos) (tTry tb th) := by
  intro pins s σ H D I h
  refine wpAny_Try_except (wpAny_mono (hb pins s σ H D _ I h) (fun f s1 q => ?_) fun ev s1 q => ?_)
  · cases f with
    | next => exact wpAny_execs_nil q
    | ret v => exact q
    | brk => exact q
    | cont => exact q
  · obtain ⟨σ', H1, s2, I2, ea, C, H', rfl, os, bare, un, hok, fly, C', e, th'⟩ := q
    cases e
    obtain ⟨B, t, fl, KB⟩ := fly.fl
    have fl0 := fl
    rw [hst] at fl0
    refine wpAny_looks_onW (by rw [← hst]; exact I2.ok.frames) hfr fl0 fun h4 held sm4 => ?_
    refine wpAny_landsW held fun h5 fl5 sm5 => ?_
    rw [← hst] at fl5
    exact hh pins σ' H' ea C _ D ⟨H1, s2, s1, B, t, I2, os, un, hok, KB, fl5, sm4.trans sm5, rfl, bare, fly.new, fly.free⟩ th'
end
end L2
set_option Elab.async false
set_option linter.all false
set_option maxRecDepth 100000
namespace L2
open PySem PySem.Spec PyProof.Rows
def Its (z : Str) : It := ⟨fun i _ => i < z.cps.size, fun i H x H' => H' = H ∧ ∃ c, z.cps[i]? = some c ∧ x = .str ⟨#[c]⟩, fun i _ => z.cps.size ≤ i⟩
theorem turn_strA {P : Program} {w : World} {K : PySem.W.Frag} {tg : Expr} (z : Str) (t : Tok) (it : Addr) : Turn P w K tg (Its z) [it] it (fun i h => h.IsStrIter it "str_ascii_iterator" z t i) where
  mem := by simp
  obj := fun i h st b hb => by
    have e : b = it := by simpa using hb
    subst e
    obtain ⟨o, e, c, d⟩ := st
    exact ⟨o, e, fun v q => by rw [d] at q; cases q⟩
  keep := fun i h h' st k => by
    obtain ⟨o, e, c, d⟩ := st
    exact ⟨o, k it (by simp) o e, c, d⟩
  item := by
    intro X hP hw hK hc i pins s σ H E I hf st hg
    subst hP hw hK
    obtain ⟨f0, f1, f2, f3, f4, f5⟩ := hf it (by simp)
    have hgi : i < z.cps.size := hg
    refine wpAny_pyNext_ascii_item st (c := z.cps[i]) (by simp [hgi]) fun h' st' sb => ?_
    have I1 : Inv X pins σ H { s with heap := h', toks := s.toks + 1 } := I.turned (fun b o hb e => (sb.2 b hb).trans e) f0 f1 f3 f4 f5
    obtain ⟨o, e, c, d⟩ := id st'
    exact ⟨_, rfl, go_of (s := { s with heap := h', toks := s.toks + 1 }) e c d (by decide) ⟨.str ⟨#[z.cps[i]]⟩, H, I1, ⟨_, rfl⟩, ⟨rfl, z.cps[i], by simp [hgi], rfl⟩, st', fun b hb => (hf b hb).1⟩⟩
  done := by
    intro X hP hw hK hc i pins s σ H E I hf st hg
    subst hP hw hK
    obtain ⟨f0, f1, f2, f3, f4, f5⟩ := hf it (by simp)
    have hgi : z.cps.size ≤ i := hg
    exact wpAny_pyNext_ascii_end (I.ok.hd hc) st (by simp [hgi]) fun h' eb => ⟨rfl, I.turned (t' := s.toks) (fun b o hb e => eb b o hb e) f0 f1 f3 f4 f5⟩
  self := fun _ _ _ _ _ st h => wpAny_pyIter_striter_ascii st h
theorem turn_strW {P : Program} {w : World} {K : PySem.W.Frag} {tg : Expr} (z : Str) (t : Tok) (it : Addr) : Turn P w K tg (Its z) [it] it (fun i h => h.IsStrIter it "str_iterator" z t i) where
  mem := by simp
  obj := fun i h st b hb => by
    have e : b = it := by simpa using hb
    subst e
    obtain ⟨o, e, c, d⟩ := st
    exact ⟨o, e, fun v q => by rw [d] at q; cases q⟩
  keep := fun i h h' st k => by
    obtain ⟨o, e, c, d⟩ := st
    exact ⟨o, k it (by simp) o e, c, d⟩
  item := by
    intro X hP hw hK hc i pins s σ H E I hf st hg
    subst hP hw hK
    obtain ⟨f0, f1, f2, f3, f4, f5⟩ := hf it (by simp)
    have hgi : i < z.cps.size := hg
    refine wpAny_pyNext_wide_item st (c := z.cps[i]) (by simp [hgi]) fun h' st' sb => ?_
    have I1 : Inv X pins σ H { s with heap := h', toks := s.toks + 1 } := I.turned (fun b o hb e => (sb.2 b hb).trans e) f0 f1 f3 f4 f5
    obtain ⟨o, e, c, d⟩ := id st'
    exact ⟨_, rfl, go_of (s := { s with heap := h', toks := s.toks + 1 }) e c d (by decide) ⟨.str ⟨#[z.cps[i]]⟩, H, I1, ⟨_, rfl⟩, ⟨rfl, z.cps[i], by simp [hgi], rfl⟩, st', fun b hb => (hf b hb).1⟩⟩
  done := by
    intro X hP hw hK hc i pins s σ H E I hf st hg
    subst hP hw hK
    obtain ⟨f0, f1, f2, f3, f4, f5⟩ := hf it (by simp)
    have hgi : z.cps.size ≤ i := hg
    exact wpAny_pyNext_wide_end (I.ok.hd hc) st (by simp [hgi]) fun h' eb => ⟨rfl, I.turned (t' := s.toks) (fun b o hb e => eb b o hb e) f0 f1 f3 f4 f5⟩
  self := fun _ _ _ _ _ st h => wpAny_pyIter_striter_wide st h
section
variable {X : Cx} {tg : Expr}
def iStr (te : TE) : TI := fun σ H R => te σ H fun x H1 => ∃ z, x = .str z ∧ R (Its z) H1
theorem pi_str {l : Expr} {te : TE} (hl : PE X l te) : PI X tg l (iStr te) := by
  intro pins s σ H R I h
  refine thn (hl pins s σ H _ I h) fun v s1 ⟨x, H1, I1, r1, q1⟩ => ?_
  obtain ⟨z, e, q⟩ := q1
  subst e
  obtain ⟨t, rfl⟩ := r1
  have fp : ∀ b ∈ [s1.heap.objs.size], FpOk X pins H1 b := fun b hb => by
    have e : b = s1.heap.objs.size := by simpa using hb
    subst e
    exact I1.fpOk (Nat.le_refl _) (I1.hok.fresh (Nat.le_refl _))
  cases ha : z.cps.all (· < 128)
  · exact wpAny_pyIter_wide ha ⟨s1.heap.objs.size, [s1.heap.objs.size], _, _, H1, rfl, I1.kept (t' := s1.toks) fun b o e => Heap.get?_push_of_some _ e, turn_strW z t _, ⟨_, Heap.get?_push_size _ rfl, rfl, rfl⟩, fp, q⟩
  · exact wpAny_pyIter_ascii ha ⟨s1.heap.objs.size, [s1.heap.objs.size], _, _, H1, rfl, I1.kept (t' := s1.toks) fun b o e => Heap.get?_push_of_some _ e, turn_strA z t _, ⟨_, Heap.get?_push_size _ rfl, rfl, rfl⟩, fp, q⟩
def repS (z : Str) (n : Int) : Str := if n < 1 then Str.empty else if (n == 1 || z.length == 0) = true then z else ⟨(List.replicate n.toNat z.cps).foldl (· ++ ·) #[]⟩
theorem op_mul_str : OpR X (binaryOp .Mult) (fun x y H Q => ∃ z n, x = .str z ∧ y = .int n ∧ z.length ≤ 1000 ∧ -1000 ≤ n ∧ n ≤ 1000 ∧ Q (.str (repS z n)) H) := by
  intro pins s σ H x y v u Q I rx ry h
  obtain ⟨z, n, rfl, rfl, hz, h1, h2, q⟩ := h
  obtain ⟨t, rfl⟩ := rx
  obtain ⟨t', rfl⟩ := ry
  refine P.mul_str (by rw [decide_eq_false (by omega), decide_eq_false (by omega)]; rfl) (fun hn _ => ?_) (fun hn _ => ?_) ?_
  · have : (1000 : Int) ≤ (2 ^ 63 - 1) / n := by
      rw [Int.le_ediv_iff_mul_le (by omega)]; omega
    omega
  · have : z.length * n.toNat ≤ 1000 * 1000 := Nat.mul_le_mul hz (by omega)
    show decide (z.length * n.toNat > sizeLine) = false
    rw [sizeLine_eq]
    exact decide_eq_false (by omega)
  · unfold repS at q
    by_cases h3 : n < 1
    · rw [if_pos h3] at q ⊢
      exact ⟨by decide, ⟨.str _, H, I.tok _, ⟨_, rfl⟩, q⟩⟩
    · rw [if_neg h3] at q ⊢
      by_cases h4 : (n == 1 || z.length == 0) = true
      · rw [if_pos h4] at q ⊢
        exact ⟨.str _, H, I, ⟨_, rfl⟩, q⟩
      · rw [if_neg h4] at q ⊢
        refine ⟨?_, ⟨.str _, H, I.tok _, ⟨_, rfl⟩, q⟩⟩
        have e : ∀ (k : Nat) (acc : Array Nat), ((List.replicate k z.cps).foldl (· ++ ·) acc).size = acc.size + k * z.cps.size := by
          intro k
          induction k with
          | zero => intro acc; simp
          | succ k ih =>
            intro acc
            rw [List.replicate_succ, List.foldl_cons, ih, Array.size_append, Nat.add_mul, Nat.one_mul]
            omega
        have e2 := e n.toNat #[]
        have hz' : z.cps.size ≤ 1000 := hz
        have : n.toNat * z.cps.size ≤ 1000 * 1000 := Nat.mul_le_mul (by omega) hz'
        show ((List.replicate n.toNat z.cps).foldl (· ++ ·) #[]).size ≤ sizeLine
        rw [e2, sizeLine_eq]
        simp only [List.size_toArray, List.length_nil]
        omega
theorem call_all (hc : X.calm = true) : CallR X (.builtin "all") (fun xs H Q => ∃ (p : Addr) (bs : List Bool), xs = [.ref p] ∧ SqL X.K H p (bs.map V.bl) ∧ Q (.bl (bs.all id)) H) := by
  intro pins s σ H xs us Q I r h
  obtain ⟨p, bs, rfl, hq, q⟩ := h
  obtain ⟨u, rfl, ru⟩ := vals1 r
  cases ru
  obtain ⟨its, rv, pl, hz⟩ := I.list hq
  have hl : its.length = bs.length := by have := rv.length; simpa using this.symm
  have item : ∀ (i : Nat) (v : Value), its[i]? = some v → v = .bool (bs.getD i true) := fun i v e => by
    have hi : i < bs.length := by rw [← hl]; exact (List.getElem?_eq_some_iff.mp e).1
    have hx : (bs.map V.bl)[i]? = some (V.bl bs[i]) := by simp [hi]
    obtain ⟨w', e', rw'⟩ := rv.get hx
    rw [e] at e'; cases e'
    have : bs.getD i true = bs[i] := by simp [List.getD_eq_getElem?_getD, hi]
    rw [this]
    exact rw'
  have hne : p ≠ s.heap.objs.size := fun z => by
    obtain ⟨o, n, e, _⟩ := pl
    exact Nat.lt_irrefl _ (z ▸ Heap.lt_size e)
  refine call_all_walk (wpAny_pyIter_list pl.isList ?_)
  refine ⟨s.heap.objs.size, [s.heap.objs.size, p], [s.heap.objs.size], its.toArray.size, fun i v => its.toArray[i]? = some v, fun i h => h.IsListIter s.heap.objs.size p i ∧ h.IsList p its.toArray, fun i => bs.getD i true, rfl,
    Walks.list (A := X.A.in1) (I.ok.hd hc) _ p hne its.toArray, ⟨⟨_, Heap.get?_push_size _ rfl, rfl, rfl⟩, pl.isList.at fun o e => Heap.get?_push_of_some _ e⟩, fun i v s' Q' E' hP hQ => ?_, fun h' tk kk => ?_⟩
  · have := item i v (by simpa using hP)
    subst this
    exact wpAny_truthy_bool hQ
  · have hb : (List.range its.toArray.size).all (fun i => bs.getD i true) = bs.all id := by
      rw [List.size_toArray, hl]
      apply Bool.eq_iff_iff.mpr
      simp only [List.all_eq_true, List.mem_range, id]
      constructor
      · intro h x hx
        obtain ⟨i, hi, rfl⟩ := List.getElem_of_mem hx
        have := h i hi
        simpa [List.getD_eq_getElem?_getD, hi] using this
      · intro h i hi
        have := h bs[i] (List.getElem_mem hi)
        simpa [List.getD_eq_getElem?_getD, hi] using this
    rw [hb]
    have I1 : Inv X pins σ H { s with heap := h', toks := tk } := I.kept fun b o e => kk b o (fun z => by
      have z' : b = s.heap.objs.size := by simpa using z
      exact Nat.lt_irrefl _ (z' ▸ Heap.lt_size e)) (Heap.get?_push_of_some _ e)
    exact ⟨.bl _, H, I1, rfl, q⟩
theorem strsAre_of {ys : List Str} : ∀ {us : List Value}, Vals (ys.map V.str) us → StrsAre us ys := by
  induction ys with
  | nil => intro us r; rw [List.map_nil] at r; cases r; exact .nil
  | cons n ns ih =>
    intro us r
    rw [List.map_cons] at r
    cases r with
    | cons r1 r2 =>
      obtain ⟨t, e⟩ := r1
      subst e
      exact .cons n t (ih r2)
def rJoin (K : PySem.W.Frag) : V → List V → Hp → VK → Prop := fun x vs H Q => ∃ (sep : Str) (p : Addr) (ys : List Str), x = .str sep ∧ vs = [.ref p] ∧ SqL K H p (ys.map V.str) ∧ (ys.map (·.length)).sum + ys.length * sep.length ≤ 16777216 ∧ Q (.str (Txt.join sep ys)) H
theorem mt_join : MtR X "str.join" (rJoin X.K) := by
  intro pins s σ H x xs v us Q I rx rs h
  obtain ⟨sep, p, ys, rfl, rfl, hq, hz, q⟩ := h
  obtain ⟨t, rfl⟩ := rx
  obtain ⟨u, rfl, ru⟩ := vals1 rs
  cases ru
  obtain ⟨its, rv, pl, _⟩ := I.list hq
  exact join_list pl.isList (by simpa using strsAre_of rv) hz fun t' k => ⟨.str _, H, I.tok _, ⟨_, rfl⟩, q⟩
end
end L2
namespace L2
open PySem PySem.Spec PyProof.Rows PySem.SeqAt
inductive Dt where
  | non | bl (b : Bool) | int (i : Int) | str (x : Str) | tup (ds : List Dt) | lst (ds : List Dt)
mutual
inductive Den (K : PySem.W.Frag) (H : Hp) : V → Dt → Prop
  | non : Den K H .non .non
  | bl (b : Bool) : Den K H (.bl b) (.bl b)
  | int (i : Int) : Den K H (.int i) (.int i)
  | str (x : Str) : Den K H (.str x) (.str x)
  | tup {a : Addr} {xs : List V} {ds : List Dt} (h : H a = some (.tup xs)) (hs : Dens K H xs ds) : Den K H (.ref a) (.tup ds)
  | lst {a : Addr} {xs : List V} {ds : List Dt} (h : SqL K H a xs) (hs : Dens K H xs ds) : Den K H (.ref a) (.lst ds)
inductive Dens (K : PySem.W.Frag) (H : Hp) : List V → List Dt → Prop
  | nil : Dens K H [] []
  | cons {x : V} {d : Dt} {xs : List V} {ds : List Dt} (h : Den K H x d) (t : Dens K H xs ds) : Dens K H (x :: xs) (d :: ds)
end
def flatD : Dt → Option V
  | .non => some .non
  | .bl b => some (.bl b)
  | .int i => some (.int i)
  | .str x => some (.str x)
  | _ => none
mutual
def eqD : Dt → Dt → Bool
  | .tup a, .tup b => eqDs a b
  | .lst a, .lst b => eqDs a b
  | .non, e => match flatD e with | some y => eqV .non y | none => false
  | .bl x, e => match flatD e with | some y => eqV (.bl x) y | none => false
  | .int x, e => match flatD e with | some y => eqV (.int x) y | none => false
  | .str x, e => match flatD e with | some y => eqV (.str x) y | none => false
  | .tup _, _ => false
  | .lst _, _ => false
def eqDs : List Dt → List Dt → Bool
  | [], [] => true
  | a :: as, b :: bs => eqD a b && eqDs as bs
  | [], _ :: _ => false
  | _ :: _, [] => false
end
def mixD : Dt → Dt → Bool
  | .tup _, e => (flatD e).isSome
  | _, _ => false
mutual
def shD : Dt → Dt → Bool
  | .tup a, .tup b => shDs a b
  | .lst a, .lst b => shDs a b
  | .non, e => (flatD e).isSome
  | .bl _, e => (flatD e).isSome
  | .int _, e => (flatD e).isSome
  | .str _, e => (flatD e).isSome
  | .tup _, _ => false
  | .lst _, _ => false
def shDs : List Dt → List Dt → Bool
  | a :: as, b :: bs => (shD a b || mixD a b) && shDs as bs
  | _, _ => true
end
mutual
def depD : Dt → Nat
  | .tup a => depDs a + 1
  | .lst a => depDs a + 1
  | _ => 0
def depDs : List Dt → Nat
  | [] => 0
  | a :: as => max (depD a) (depDs as)
end
theorem Dens.length {K : PySem.W.Frag} {H : Hp} : ∀ {xs : List V} {ds : List Dt}, Dens K H xs ds → xs.length = ds.length
  | _, _, .nil => rfl
  | _, _, .cons _ t => by rw [List.length_cons, List.length_cons, t.length]
theorem Dens.get {K : PySem.W.Frag} {H : Hp} : ∀ {xs : List V} {ds : List Dt} {i : Nat} {x : V}, Dens K H xs ds → xs[i]? = some x → ∃ d, ds[i]? = some d ∧ Den K H x d
  | _, _, _, _, .nil, e => by simp at e
  | _, _, 0, _, .cons h _, e => by simp at e; subst e; exact ⟨_, rfl, h⟩
  | _, _, i + 1, x, .cons _ t, e => by
    obtain ⟨d, h1, h2⟩ := Dens.get (i := i) (x := x) t (by simpa using e)
    exact ⟨d, by simpa using h1, h2⟩
theorem Dens.get' {K : PySem.W.Frag} {H : Hp} : ∀ {xs : List V} {ds : List Dt} {i : Nat} {d : Dt}, Dens K H xs ds → ds[i]? = some d → ∃ x, xs[i]? = some x ∧ Den K H x d
  | _, _, _, _, .nil, e => by simp at e
  | _, _, 0, _, .cons h _, e => by simp at e; subst e; exact ⟨_, rfl, h⟩
  | _, _, i + 1, d, .cons _ t, e => by
    obtain ⟨x, h1, h2⟩ := Dens.get' (i := i) (d := d) t (by simpa using e)
    exact ⟨x, by simpa using h1, h2⟩
theorem Dens.append {K : PySem.W.Frag} {H : Hp} : ∀ {xs ys : List V} {ds es : List Dt}, Dens K H xs ds → Dens K H ys es → Dens K H (xs ++ ys) (ds ++ es)
  | _, _, _, _, .nil, s => s
  | _, _, _, _, .cons h t, s => .cons h (t.append s)
theorem depDs_mem : ∀ {ds : List Dt} {d : Dt}, d ∈ ds → depD d ≤ depDs ds
  | a :: as, d, h => by
    unfold depDs
    rcases List.mem_cons.mp h with e | e
    · rw [e]; exact Nat.le_max_left _ _
    · exact Nat.le_trans (depDs_mem e) (Nat.le_max_right _ _)
theorem shDs_get : ∀ {as bs : List Dt} {i : Nat} {a b : Dt}, shDs as bs = true → as[i]? = some a → bs[i]? = some b → shD a b = true ∨ mixD a b = true
  | x :: as, y :: bs, 0, a, b, h, e1, e2 => by
    simp at e1 e2; subst e1; subst e2
    unfold shDs at h; simp only [Bool.and_eq_true, Bool.or_eq_true] at h; exact h.1
  | x :: as, y :: bs, i + 1, a, b, h, e1, e2 => by
    unfold shDs at h; simp only [Bool.and_eq_true] at h
    exact shDs_get (i := i) h.2 (by simpa using e1) (by simpa using e2)
  | [], _, _, _, _, _, e1, _ => by simp at e1
  | _ :: _, [], _, _, _, _, _, e2 => by simp at e2
def atD (as bs : List Dt) (j : Nat) : Bool := eqD (as.getD j .non) (bs.getD j .non)
theorem range_succ_all (n : Nat) (p : Nat → Bool) : (List.range (n + 1)).all p = (p 0 && (List.range n).all fun j => p (j + 1)) := by
  rw [List.range_succ_eq_map, List.all_cons, List.all_map]
  rfl
theorem eqDs_all : ∀ {as bs : List Dt}, as.length = bs.length → (List.range as.length).all (atD as bs) = eqDs as bs
  | [], [], _ => rfl
  | a :: as, b :: bs, h => by
    have ih := @eqDs_all as bs (by simpa using h)
    rw [List.length_cons, range_succ_all]
    unfold eqDs
    rw [← ih]
    rfl
  | [], _ :: _, h => by simp at h
  | _ :: _, [], h => by simp at h
theorem eqDs_len : ∀ {as bs : List Dt}, as.length ≠ bs.length → eqDs as bs = false
  | [], [], h => absurd rfl h
  | a :: as, b :: bs, h => by
    unfold eqDs
    rw [eqDs_len (as := as) (bs := bs) (fun z => h (by rw [List.length_cons, List.length_cons, z])), Bool.and_false]
  | [], _ :: _, _ => rfl
  | _ :: _, [], _ => rfl
theorem eqDs_min : ∀ {as bs : List Dt}, ((List.range (min as.length bs.length)).all (atD as bs) && as.length == bs.length) = eqDs as bs := by
  intro as bs
  by_cases h : as.length = bs.length
  · rw [← h, Nat.min_self, eqDs_all h]; simp
  · rw [eqDs_len h]; simp [h]
theorem eqV_refl : ∀ {x : V}, flatV x = true → eqV x x = true
  | .non, _ => rfl
  | .bl b, _ => by simp [eqV]
  | .int i, _ => by simp [eqV]
  | .str x, _ => by simp [eqV]
mutual
theorem eqD_refl : ∀ d : Dt, eqD d d = true
  | .non => rfl
  | .bl b => by show eqV (.bl b) (.bl b) = true; exact eqV_refl rfl
  | .int i => by show eqV (.int i) (.int i) = true; exact eqV_refl rfl
  | .str x => by show eqV (.str x) (.str x) = true; exact eqV_refl rfl
  | .tup ds => by unfold eqD; exact eqDs_refl ds
  | .lst ds => by unfold eqD; exact eqDs_refl ds
theorem eqDs_refl : ∀ ds : List Dt, eqDs ds ds = true
  | [] => rfl
  | a :: as => by unfold eqDs; rw [eqD_refl a, eqDs_refl as]; rfl
end
mutual
theorem shD_refl : ∀ d : Dt, shD d d = true
  | .non => rfl
  | .bl _ => rfl
  | .int _ => rfl
  | .str _ => rfl
  | .tup ds => by unfold shD; exact shDs_refl ds
  | .lst ds => by unfold shD; exact shDs_refl ds
theorem shDs_refl : ∀ ds : List Dt, shDs ds ds = true
  | [] => rfl
  | a :: as => by unfold shDs; rw [shD_refl a, shDs_refl as, Bool.true_or]; rfl
end
theorem no_both {X : Cx} {pins : List (Addr × Obj)} {σ : St} {H : Hp} {s : Shared} {a : Addr} {xs ys : List V} (I : Inv X pins σ H s) (h : SqT X.K H a xs) (h' : SqL X.K H a ys) : False := by
  obtain ⟨_, _, ⟨o, e, c, _⟩, _⟩ := I.tuple h
  obtain ⟨_, _, ⟨o', _, e', c', _⟩, _⟩ := I.list h'
  rw [e] at e'; cases e'
  rw [c] at c'; exact absurd c' (by decide)
mutual
theorem Den.inj {X : Cx} {pins : List (Addr × Obj)} {σ : St} {H : Hp} {s : Shared} (I : Inv X pins σ H s) : ∀ {d : Dt} {e : Dt} {x : V}, Den X.K H x d → Den X.K H x e → d = e
  | .tup ds, _, _, .tup h hs, he => by
    cases he with
    | tup h' hs' =>
      have e := I.tuple_inj (SqT.of h) (SqT.of h')
      subst e
      rw [Dens.inj I hs hs']
    | lst h' hs' => exact (no_both I (SqT.of h) h').elim
  | .lst ds, _, _, .lst h hs, he => by
    cases he with
    | lst h' hs' =>
      have e := I.list_inj h h'
      subst e
      rw [Dens.inj I hs hs']
    | tup h' hs' => exact (no_both I (SqT.of h') h).elim
  | .non, _, _, .non, he => by cases he; rfl
  | .bl _, _, _, .bl _, he => by cases he; rfl
  | .int _, _, _, .int _, he => by cases he; rfl
  | .str _, _, _, .str _, he => by cases he; rfl
theorem Dens.inj {X : Cx} {pins : List (Addr × Obj)} {σ : St} {H : Hp} {s : Shared} (I : Inv X pins σ H s) : ∀ {ds es : List Dt} {xs : List V}, Dens X.K H xs ds → Dens X.K H xs es → ds = es
  | [], _, _, .nil, he => by cases he; rfl
  | d :: ds, _, _, .cons h t, he => by
    cases he with
    | cons h' t' => rw [Den.inj I h h', Dens.inj I t t']
end
theorem Dens.getD {K : PySem.W.Frag} {H : Hp} {xs : List V} {ds : List Dt} {us : List Value} {j : Nat} (D : Dens K H xs ds) (r : Vals xs us) (h : j < us.length) : ∃ x, RelV x us[j] ∧ Den K H x (ds.getD j .non) ∧ ds[j]? = some (ds.getD j .non) := by
  have hl := r.length
  have hx : xs[j]? = some xs[j] := by simp [hl, h]
  obtain ⟨u, hu, ru⟩ := r.get hx
  obtain ⟨d, hd, dd⟩ := D.get hx
  have eu : us[j] = u := by
    rw [List.getElem?_eq_getElem h] at hu
    exact Option.some.inj hu
  have ed : ds.getD j .non = d := by rw [List.getD_eq_getElem?_getD, hd]; rfl
  rw [eu, ed]
  exact ⟨_, ru, dd, hd⟩
theorem Den.flat {K : PySem.W.Frag} {H : Hp} {x : V} {d : Dt} {y : V} (h : Den K H x d) (e : flatD d = some y) : x = y ∧ flatV x = true := by
  cases h with
  | non => cases e; exact ⟨rfl, rfl⟩
  | bl b => cases e; exact ⟨rfl, rfl⟩
  | int i => cases e; exact ⟨rfl, rfl⟩
  | str z => cases e; exact ⟨rfl, rfl⟩
  | tup _ _ => cases e
  | lst _ _ => cases e
theorem eqD_flat {d e : Dt} {x y : V} (h1 : flatD d = some x) (h2 : flatD e = some y) : eqD d e = eqV x y := by
  cases d <;> first
    | (cases h1; simp only [eqD, h2])
    | cases h1
theorem shD_flat {d e : Dt} {x : V} (h1 : flatD d = some x) (h : shD d e = true) : ∃ y, flatD e = some y := by
  cases d <;> first
    | (cases h1; unfold shD at h; exact Option.isSome_iff_exists.mp h)
    | cases h1
theorem eqAt_mix {X : Cx} {pins : List (Addr × Obj)} {σ : St} {H : Hp} {s : Shared} (I : Inv X pins σ H s) {d e : Dt} {x y : V} {u v : Value} {A : Around} (hu : A.units < cLine) (hx : Den X.K H x d) (hy : Den X.K H y e) (rx : RelV x u) (ry : RelV y v) (mx : mixD d e = true) : EqAt A s u v (eqD d e) := by
  cases hx with
  | @tup a xs ds h hs =>
    cases rx
    obtain ⟨us, r, ht, _⟩ := I.tuple (SqT.of h)
    cases hy with
    | non => cases ry; exact EqAt.tuple_none ht hu
    | bl b => cases ry; exact EqAt.tuple_bool b ht hu
    | int i => obtain ⟨t, rfl⟩ := ry; exact EqAt.tuple_int i t ht hu
    | str z => obtain ⟨t, rfl⟩ := ry; exact EqAt.tuple_str z t ht hu
    | tup _ _ => cases mx
    | lst _ _ => cases mx
  | _ => cases mx
theorem eqAt_den {X : Cx} {pins : List (Addr × Obj)} {σ : St} {H : Hp} {s : Shared} (I : Inv X pins σ H s) : ∀ (n : Nat) {d e : Dt} {x y : V} {u v : Value} {A : Around}, depD d ≤ n → A.units + n < cLine → Den X.K H x d → Den X.K H y e → RelV x u → RelV y v → shD d e = true → EqAt A s u v (eqD d e) := by
  intro n
  induction n with
  | zero =>
    intro d e x y u v A hn hu hx hy rx ry sh
    cases fd : flatD d with
    | some x' =>
      obtain ⟨y', fe⟩ := shD_flat fd sh
      obtain ⟨rfl, f1⟩ := hx.flat fd
      obtain ⟨rfl, f2⟩ := hy.flat fe
      rw [eqD_flat fd fe]
      exact eqAt_V rx ry f1 f2
    | none =>
      cases d with
      | tup ds => unfold depD at hn; exact absurd hn (by omega)
      | lst ds => unfold depD at hn; exact absurd hn (by omega)
      | _ => cases fd
  | succ n ih =>
    intro d e x y u v A hn hu hx hy rx ry sh
    cases fd : flatD d with
    | some x' =>
      obtain ⟨y', fe⟩ := shD_flat fd sh
      obtain ⟨rfl, f1⟩ := hx.flat fd
      obtain ⟨rfl, f2⟩ := hy.flat fe
      rw [eqD_flat fd fe]
      exact eqAt_V rx ry f1 f2
    | none =>
      cases d with
      | tup ds =>
        cases e with
        | tup es =>
          cases hx with
          | @tup a xs _ h hs =>
            cases hy with
            | @tup b ys _ h' hs' =>
              cases rx
              cases ry
              by_cases hab : a = b
              · subst hab
                have e := Den.inj I (.tup h hs) (.tup h' hs')
                rw [e, eqD_refl]
                exact EqAt.same _
              · obtain ⟨us, r, ht, _⟩ := I.tuple (SqT.of h)
                obtain ⟨ws, r', ht', _⟩ := I.tuple (SqT.of h')
                have sh' : shDs ds es = true := by unfold shD at sh; exact sh
                rw [show eqD (.tup ds) (.tup es) = eqDs ds es from by unfold eqD; rfl]
                rw [← eqDs_min]
                have l1 : us.toArray.size = ds.length := by rw [List.size_toArray, ← r.length, hs.length]
                have l2 : ws.toArray.size = es.length := by rw [List.size_toArray, ← r'.length, hs'.length]
                rw [← l1, ← l2]
                refine EqAt.of_refs hab (RcAt.tuples ht ht' (by omega) fun j h1 h2 => ?_)
                obtain ⟨p, rp, dp, ep⟩ := hs.getD r (j := j) (by simpa using h1)
                obtain ⟨q, rq, dq, eq⟩ := hs'.getD r' (j := j) (by simpa using h2)
                unfold depD at hn
                have hd := depDs_mem (List.mem_of_getElem? ep)
                exact (shDs_get sh' ep eq).elim (fun z => ih (A := A.in1) (by omega) (by show A.units + 1 + n < cLine; omega) dp dq (by simpa using rp) (by simpa using rq) z) (fun z => eqAt_mix (A := A.in1) I (by show A.units + 1 < cLine; omega) dp dq (by simpa using rp) (by simpa using rq) z)
        | _ => unfold shD at sh; cases sh
      | lst ds =>
        cases e with
        | lst es =>
          cases hx with
          | @lst a xs _ h hs =>
            cases hy with
            | @lst b ys _ h' hs' =>
              cases rx
              cases ry
              by_cases hab : a = b
              · subst hab
                have e := Den.inj I (.lst h hs) (.lst h' hs')
                rw [e, eqD_refl]
                exact EqAt.same _
              · obtain ⟨us, r, ht, _⟩ := I.list h
                obtain ⟨ws, r', ht', _⟩ := I.list h'
                have sh' : shDs ds es = true := by unfold shD at sh; exact sh
                rw [show eqD (.lst ds) (.lst es) = eqDs ds es from by unfold eqD; rfl]
                have l1 : us.toArray.size = ds.length := by rw [List.size_toArray, ← r.length, hs.length]
                have l2 : ws.toArray.size = es.length := by rw [List.size_toArray, ← r'.length, hs'.length]
                by_cases hl : ds.length = es.length
                · rw [← eqDs_all hl, ← l1]
                  refine EqAt.of_refs hab (RcAt.lists ht.isList ht'.isList (by rw [l1, l2]; exact hl) (by omega) fun j h1 h2 => ?_)
                  obtain ⟨p, rp, dp, ep⟩ := hs.getD r (j := j) (by simpa using h1)
                  obtain ⟨q, rq, dq, eq⟩ := hs'.getD r' (j := j) (by simpa using h2)
                  unfold depD at hn
                  have hd := depDs_mem (List.mem_of_getElem? ep)
                  exact (shDs_get sh' ep eq).elim (fun z => ih (A := A.in1) (by omega) (by show A.units + 1 + n < cLine; omega) dp dq (by simpa using rp) (by simpa using rq) z) (fun z => eqAt_mix (A := A.in1) I (by show A.units + 1 < cLine; omega) dp dq (by simpa using rp) (by simpa using rq) z)
                · rw [eqDs_len hl]
                  exact EqAt.of_refs hab (RcAt.lists_lengths ht.isList ht'.isList (by rw [l1, l2]; simpa using hl) (by omega))
        | _ => unfold shD at sh; cases sh
      | _ => cases fd
end L2
namespace L2
open PySem PySem.Spec PyProof.Rows PySem.SeqAt
section
variable {X : Cx} {pins : List (Addr × Obj)} {σ : St} {H : Hp} {s : Shared}
def seqD : Dt → Option (List Dt)
  | .tup ds => some ds
  | .lst ds => some ds
  | _ => none
theorem items_den {n : Nat} {A : Around} (I : Inv X pins σ H s) {xs ys : List V} {ds es : List Dt} {us ws : List Value} (hn : depDs ds ≤ n) (hu : A.units + (n + 1) < cLine) (hs : Dens X.K H xs ds) (hs' : Dens X.K H ys es) (r : Vals xs us) (r' : Vals ys ws)
    (sh : shDs ds es = true) (j : Nat) (h1 : j < us.toArray.size) (h2 : j < ws.toArray.size) : EqAt A.in1 s us.toArray[j] ws.toArray[j] (atD ds es j) := by
  obtain ⟨p, rp, dp, ep⟩ := hs.getD r (j := j) (by simpa using h1)
  obtain ⟨q, rq, dq, eq⟩ := hs'.getD r' (j := j) (by simpa using h2)
  have hd := depDs_mem (List.mem_of_getElem? ep)
  exact (shDs_get sh ep eq).elim (fun z => eqAt_den I n (A := A.in1) (by omega) (by show A.units + 1 + n < cLine; omega) dp dq (by simpa using rp) (by simpa using rq) z) (fun z => eqAt_mix (A := A.in1) I (by show A.units + 1 < cLine; omega) dp dq (by simpa using rp) (by simpa using rq) z)
theorem rcAt_den {A : Around} (I : Inv X pins σ H s) {d e : Dt} {a b : Addr} (hq : (seqD d).isSome = true) (hu : A.units + 60 < cLine) (hn : depD d ≤ 50) (hx : Den X.K H (.ref a) d) (hy : Den X.K H (.ref b) e) (sh : shD d e = true) : RcAt A s (.ref a) (.ref b) (eqD d e) ∧ RcNeAt A s (.ref a) (.ref b) (!eqD d e) := by
  cases d with
  | tup ds =>
    cases e with
    | tup es =>
      cases hx with
      | tup h hs =>
        cases hy with
        | tup h' hs' =>
          obtain ⟨us, r, ht, _⟩ := I.tuple (SqT.of h)
          obtain ⟨ws, r', ht', _⟩ := I.tuple (SqT.of h')
          have sh' : shDs ds es = true := by unfold shD at sh; exact sh
          have hn' : depDs ds ≤ 49 := by unfold depD at hn; omega
          rw [show eqD (.tup ds) (.tup es) = eqDs ds es from by unfold eqD; rfl, ← eqDs_min]
          have l1 : us.toArray.size = ds.length := by rw [List.size_toArray, ← r.length, hs.length]
          have l2 : ws.toArray.size = es.length := by rw [List.size_toArray, ← r'.length, hs'.length]
          rw [← l1, ← l2]
          exact ⟨RcAt.tuples ht ht' (by omega) (items_den I hn' (by omega) hs hs' r r' sh'), RcNeAt.tuples ht ht' (by omega) (items_den I hn' (by omega) hs hs' r r' sh')⟩
    | _ => unfold shD at sh; cases sh
  | lst ds =>
    cases e with
    | lst es =>
      cases hx with
      | lst h hs =>
        cases hy with
        | lst h' hs' =>
          obtain ⟨us, r, ht, _⟩ := I.list h
          obtain ⟨ws, r', ht', _⟩ := I.list h'
          have sh' : shDs ds es = true := by unfold shD at sh; exact sh
          have hn' : depDs ds ≤ 49 := by unfold depD at hn; omega
          rw [show eqD (.lst ds) (.lst es) = eqDs ds es from by unfold eqD; rfl]
          have l1 : us.toArray.size = ds.length := by rw [List.size_toArray, ← r.length, hs.length]
          have l2 : ws.toArray.size = es.length := by rw [List.size_toArray, ← r'.length, hs'.length]
          by_cases hl : ds.length = es.length
          · rw [← eqDs_all hl, ← l1]
            exact ⟨RcAt.lists ht.isList ht'.isList (by rw [l1, l2]; exact hl) (by omega) (items_den I hn' (by omega) hs hs' r r' sh'), RcNeAt.lists ht.isList ht'.isList (by rw [l1, l2]; exact hl) (by omega) (items_den I hn' (by omega) hs hs' r r' sh')⟩
          · rw [eqDs_len hl]
            exact ⟨RcAt.lists_lengths ht.isList ht'.isList (by rw [l1, l2]; simpa using hl) (by omega), RcNeAt.lists_lengths ht.isList ht'.isList (by rw [l1, l2]; simpa using hl) (by omega)⟩
    | _ => unfold shD at sh; cases sh
  | _ => cases hq
def rEqD (K : PySem.W.Frag) (neg : Bool) : R2 := fun x y H Q => ∃ d e, (seqD d).isSome = true ∧ Den K H x d ∧ Den K H y e ∧ shD d e = true ∧ depD d ≤ 50 ∧ Q (.bl (if neg then !eqD d e else eqD d e)) H
theorem Den.ref_of {K : PySem.W.Frag} {x : V} {d e : Dt} {y : V} (hq : (seqD d).isSome = true) (hx : Den K H x d) (hy : Den K H y e) (sh : shD d e = true) : ∃ a b, x = .ref a ∧ y = .ref b := by
  cases hx with
  | @tup a _ _ _ _ =>
    cases hy with
    | @tup b _ _ _ _ => exact ⟨a, b, rfl, rfl⟩
    | _ => unfold shD at sh; cases sh
  | @lst a _ _ _ _ =>
    cases hy with
    | @lst b _ _ _ _ => exact ⟨a, b, rfl, rfl⟩
    | _ => unfold shD at sh; cases sh
  | _ => cases hq
theorem op_eqD (hu : X.A.units + 60 < cLine) : OpR X (compareOp .Eq) (rEqD X.K false) := by
  intro pins s σ H x y v u Q I rx ry h
  obtain ⟨d, e, hq, hx, hy, sh, hn, q⟩ := h
  obtain ⟨a, b, rfl, rfl⟩ := Den.ref_of hq hx hy sh
  cases rx
  cases ry
  exact (rcAt_den I hq hu hn hx hy sh).1 _ _ _ _ ⟨.bl _, H, I, rfl, q⟩
theorem op_neD (hu : X.A.units + 60 < cLine) : OpR X (compareOp .NotEq) (rEqD X.K true) := by
  intro pins s σ H x y v u Q I rx ry h
  obtain ⟨d, e, hq, hx, hy, sh, hn, q⟩ := h
  obtain ⟨a, b, rfl, rfl⟩ := Den.ref_of hq hx hy sh
  cases rx
  cases ry
  exact (rcAt_den I hq hu hn hx hy sh).2 _ _ _ _ ⟨.bl _, H, I, rfl, q⟩
def rInD (K : PySem.W.Frag) (neg : Bool) : R2 := fun x y H Q => ∃ d es p, y = .ref p ∧ Den K H x d ∧ (Den K H y (.lst es) ∨ Den K H y (.tup es)) ∧ (∀ e ∈ es, shD e d = true ∧ depD e ≤ 50) ∧ Q (.bl (if neg then !(es.any fun e => eqD e d) else es.any fun e => eqD e d)) H
theorem any_den {K : PySem.W.Frag} {d : Dt} {P : Value → Bool} : ∀ {xs : List V} {es : List Dt} {us : List Value}, Dens K H xs es → Vals xs us → (∀ (j : Nat) (u : Value) (e : Dt), us[j]? = some u → es[j]? = some e → P u = eqD e d) → us.any P = es.any fun e => eqD e d
  | _, _, _, .nil, .nil, _ => rfl
  | _, _, _, .cons _ t, .cons _ r, h => by
    rw [List.any_cons, List.any_cons, h 0 _ _ rfl rfl, any_den t r fun j u e h1 h2 => h (j + 1) u e (by simpa using h1) (by simpa using h2)]
open Classical in
theorem in_den (I : Inv X pins σ H s) {x : V} {v : Value} {d : Dt} {ys : List V} {es : List Dt} {us : List Value} {A : Around} (hu : A.units + 60 < cLine) (rx : RelV x v) (hx : Den X.K H x d) (hs : Dens X.K H ys es) (r : Vals ys us) (hsh : ∀ e ∈ es, shD e d = true ∧ depD e ≤ 50) :
    ∃ P : Value → Bool, (∀ u ∈ us, EqAt A s u v (P u)) ∧ us.any P = es.any fun e => eqD e d := by
  have key : ∀ (j : Nat) (u : Value) (e : Dt), us[j]? = some u → es[j]? = some e → EqAt A s u v (eqD e d) ∧ ∃ y, RelV y u ∧ Den X.K H y e := fun j u e h1 h2 => by
    obtain ⟨y, h3, dy⟩ := hs.get' h2
    obtain ⟨u', h4, ry⟩ := r.get h3
    rw [h1] at h4; cases h4
    obtain ⟨a1, a2⟩ := hsh e (List.mem_of_getElem? h2)
    exact ⟨eqAt_den I 50 a2 (by omega) dy hx ry rx a1, y, ry, dy⟩
  have one : ∀ (j : Nat) (u : Value) (e : Dt), us[j]? = some u → es[j]? = some e → decide (∃ y e, RelV y u ∧ Den X.K H y e ∧ eqD e d = true) = eqD e d := fun j u e h1 h2 => by
    obtain ⟨_, y, ry, dy⟩ := key j u e h1 h2
    cases q : eqD e d with
    | true => exact decide_eq_true ⟨y, _, ry, dy, q⟩
    | false =>
      refine decide_eq_false fun ⟨y', e', ry', dy', q'⟩ => ?_
      have ey := ry.inj ry'
      subst ey
      rw [Den.inj I dy' dy, q] at q'
      cases q'
  refine ⟨fun u => decide (∃ y e, RelV y u ∧ Den X.K H y e ∧ eqD e d = true), fun u hu' => ?_, any_den hs r one⟩
  obtain ⟨j, hj⟩ := List.getElem?_of_mem hu'
  have hl : j < es.length := by rw [← hs.length, r.length]; exact (List.getElem?_eq_some_iff.mp hj).1
  have e1 := (key j u es[j] hj (by simp [hl])).1
  show EqAt A s u v (decide _)
  rw [one j u es[j] hj (by simp [hl])]
  exact e1
theorem op_inD (hu : X.A.units + 61 < cLine) : OpR X (compareOp .In) (rInD X.K false) := by
  intro pins s σ H x y v u Q I rx ry h
  obtain ⟨d, es, p, rfl, hx, hy, hsh, q⟩ := h
  cases ry
  rcases hy with hy | hy
  · cases hy with
    | lst h' hs =>
      obtain ⟨us, r, ht, _⟩ := I.list h'
      obtain ⟨P, hP, e⟩ := in_den (A := X.A.in1) I (by show X.A.units + 1 + 60 < cLine; omega) rx hx hs r hsh
      exact in_listAt P ht.isList (fun z hz => hP z (by simpa using hz)) ⟨.bl _, H, I, by rw [← e]; simp <;> rfl, q⟩
  · cases hy with
    | tup h' hs =>
      obtain ⟨us, r, ht, _⟩ := I.tuple (SqT.of h')
      obtain ⟨P, hP, e⟩ := in_den (A := X.A.in1) I (by show X.A.units + 1 + 60 < cLine; omega) rx hx hs r hsh
      exact in_tupleAt P ht (fun z hz => hP z (by simpa using hz)) ⟨.bl _, H, I, by rw [← e]; simp <;> rfl, q⟩
theorem op_notInD (hu : X.A.units + 61 < cLine) : OpR X (compareOp .NotIn) (rInD X.K true) := by
  intro pins s σ H x y v u Q I rx ry h
  obtain ⟨d, es, p, rfl, hx, hy, hsh, q⟩ := h
  cases ry
  rcases hy with hy | hy
  · cases hy with
    | lst h' hs =>
      obtain ⟨us, r, ht, _⟩ := I.list h'
      obtain ⟨P, hP, e⟩ := in_den (A := X.A.in1) I (by show X.A.units + 1 + 60 < cLine; omega) rx hx hs r hsh
      exact notIn_listAt P ht.isList (fun z hz => hP z (by simpa using hz)) ⟨.bl _, H, I, by rw [← e]; simp <;> rfl, q⟩
  · cases hy with
    | tup h' hs =>
      obtain ⟨us, r, ht, _⟩ := I.tuple (SqT.of h')
      obtain ⟨P, hP, e⟩ := in_den (A := X.A.in1) I (by show X.A.units + 1 + 60 < cLine; omega) rx hx hs r hsh
      exact notIn_tupleAt P ht (fun z hz => hP z (by simpa using hz)) ⟨.bl _, H, I, by rw [← e]; simp <;> rfl, q⟩
end
end L2
set_option Elab.async false
set_option linter.all false
set_option maxRecDepth 100000
namespace L2
open PySem PySem.Spec PyProof.Rows
structure Df (P : Program) (w : World) (K : PySem.W.Frag) (mg : Str → Option Value) (base : Heap) (k : Nat) (x : Str) (ps : List Str) (sp : Sp) : Prop where
  ex : ∃ f fd, FnOk P w K mg base (CXE P w) k f fd ps sp ∧ mg x = some (.ref f) ∧ PySem.W.keepIn K (.ref f) = true ∧ Binds K fd ps []
theorem passE {X : Cx} : Passes (CXE X.prog X.w) X E0 := by
  intro pins σ H s e s' I h
  obtain ⟨ea, C, H', _, _, _, _, _, _, z⟩ := h
  exact z.elim
section
variable {P : Program} {w : World} {K : PySem.W.Frag} {mg : Str → Option Value} {base : Heap}
theorem Fun.okE {x qual : Str} {st : Stmt} {f : Addr} {fd : FuncData} {N ps : List Str} {k : Nat} {sp : Sp} (F : Fun K x qual st f fd) (S : FnScope N ps (defScope st)) (len : ∀ vs H Q E, sp vs H Q E → vs.length = ps.length)
    (hbody : ∀ (cdv : Value) (A : Around) (outer : List Env) (s : Shared) (H : Hp) (vs : List V) (Q : VK) (E : XK), Room k (A.deeper (envOfC qual (defScope st) s.heap.objs.size f cdv)) → sp vs H Q E →
      ∃ t, PSs (cxOf (CXE P w) P w K mg base N qual (defScope st) f cdv A outer s H E) (defBody st) t ∧ t { nx := fun _ H' => Q .non H', rt := Q } (start N vs) H) : FnOk P w K mg base (CXE P w) (k + 1) f fd ps sp := by
  obtain ⟨oc, od, kV, doc, pm, an, cdv, ct, osl, rfl, lk, hcd⟩ := F.ex
  exact fn_of lk hcd S len fun A outer s H vs Q E hr hsp => hbody cdv A outer s H vs Q E hr hsp
theorem Fun.ok0 {x qual : Str} {st : Stmt} {f : Addr} {fd : FuncData} {N ps : List Str} {k : Nat} {sp : Sp} (F : Fun K x qual st f fd) (S : FnScope N ps (defScope st)) (len : ∀ vs H Q E, sp vs H Q E → vs.length = ps.length)
    (hbody : ∀ (cdv : Value) (A : Around) (outer : List Env) (s : Shared) (H : Hp) (vs : List V) (Q : VK) (E : XK), Room k (A.deeper (envOfC qual (defScope st) s.heap.objs.size f cdv)) → sp vs H Q E →
      ∃ t, PSs (cxOf (CXE P w) P w K mg base N qual (defScope st) f cdv A outer s H E).nox (defBody st) t ∧ t { nx := fun _ H' => Q .non H', rt := Q } (start N vs) H) : FnOk P w K mg base (CXE P w) (k + 1) f fd ps sp :=
  F.okE S len fun cdv A outer s H vs Q E hr hsp => let ⟨t, h, q⟩ := hbody cdv A outer s H vs Q E hr hsp; ⟨t, h.nox, q⟩
end
theorem PS.nox {X : Cx} {st : Stmt} {t : TS} (h : PS X.nox st t) : PS X st t := fun pins s σ H D I hw =>
  wpAny_mono (h pins s σ H D (I.wish _) hw) (fun _ _ q => SP.unwish q) fun _ _ z => False.elim z
section
variable {X : Cx} {k j : Nat} {ps : List Str} {sp : Sp} {E : XK} {x : Str} {p pos : Pos} {e : Expr} {es : List Expr} {t : TA}
theorem pe_def (D : Df X.prog X.w X.K X.mg X.base k x ps sp) (hr : Room j X.A) (hg : Gl X x) (hx : Passes (CXE X.prog X.w) X E) (ha : PA X (e :: es) t) (hk : k ≤ j := by decide)
    (hdb : (x == ("__debug__" : Str)) = false := by decide) (he : starEach (e :: es) X.env = (false, eval e X.env) :: starEach es X.env := by rfl) (hpl : (backTo pos (starEach es X.env)).any (·.1) = false := by rfl) :
    PE X (.Call (.Name x p) (e :: es) [] pos) (tCall sp [] E t) := by
  obtain ⟨f, fd, F, hm, kp, hb⟩ := D.ex
  exact pe_call F (hr.mono hk) hg hm kp hb .nil hx ha hdb he hpl
end
section
variable {X : Cx} {x : Str} {pos : Pos}
theorem pe_gint {i : Int} (h : ∃ t, X.mg x = some (.int i t)) (hg : Gl X x) (hd : (x == ("__debug__" : Str)) = false := by decide) : PE X (.Name x pos) (tC (.int i)) := by
  obtain ⟨t, h⟩ := h
  exact pe_glob hg h ⟨t, rfl⟩ hd
theorem pe_gstr {z : Str} (h : ∃ t, X.mg x = some (.str z t)) (hg : Gl X x) (hd : (x == ("__debug__" : Str)) = false := by decide) : PE X (.Name x pos) (tC (.str z)) := by
  obtain ⟨t, h⟩ := h
  exact pe_glob hg h ⟨t, rfl⟩ hd
end
section
variable {X : Cx}
def rAddG : R2 := fun x y H Q => match x, y with
  | .int i, .int j => Q (.int (i + j)) H
  | .str i, .str j => i.length + j.length ≤ sizeLine ∧ Q (.str (i ++ j)) H
  | .ref l, .ref b => ∃ xs zs, H l = some (.lst xs) ∧ H b = some (.lst zs) ∧ xs.length + zs.length ≤ sizeLine ∧ ∀ p, H p = none → Q (.ref p) (upd H p (.lst (xs ++ zs)))
  | _, _ => False
theorem op_addG : OpR X (binaryOp .Add) rAddG := by
  intro pins s σ H x y v u Q I rx ry h
  unfold rAddG at h
  split at h
  · exact op_add pins s σ H _ _ v u Q I rx ry ⟨_, _, rfl, rfl, h⟩
  · exact op_add_str pins s σ H _ _ v u Q I rx ry ⟨_, _, rfl, rfl, h.1, h.2⟩
  · obtain ⟨xs, zs, h1, h2, h3, h4⟩ := h
    exact op_cat pins s σ H _ _ v u Q I rx ry ⟨_, _, xs, zs, rfl, rfl, h1, h2, h3, h4⟩
  · exact h.elim
def rMulG : R2 := fun x y H Q => match x, y with
  | .int i, .int j => CMul i j ∧ Q (.int (i * j)) H
  | .str z, .int n => z.length ≤ 1000 ∧ -1000 ≤ n ∧ n ≤ 1000 ∧ Q (.str (repS z n)) H
  | .ref l, .int k => ∃ xs, H l = some (.lst xs) ∧ -(2 ^ 63) ≤ k ∧ k < 2 ^ 63 ∧ xs.length * k.toNat ≤ sizeLine ∧ ∀ p, H p = none → Q (.ref p) (upd H p (.lst (List.replicate k.toNat xs).flatten))
  | _, _ => False
theorem op_mulG : OpR X (binaryOp .Mult) rMulG := by
  intro pins s σ H x y v u Q I rx ry h
  unfold rMulG at h
  split at h
  · exact op_mul pins s σ H _ _ v u Q I rx ry ⟨_, _, rfl, rfl, h.1, h.2⟩
  · exact op_mul_str pins s σ H _ _ v u Q I rx ry ⟨_, _, rfl, rfl, h.1, h.2.1, h.2.2.1, h.2.2.2⟩
  · obtain ⟨xs, h1, h2, h3, h4, h5⟩ := h
    exact op_rep pins s σ H _ _ v u Q I rx ry ⟨_, _, xs, rfl, rfl, h1, h2, h3, h4, h5⟩
  · exact h.elim
end
end L2
set_option Elab.async false
set_option linter.all false
set_option maxRecDepth 100000
namespace L2
open PySem PySem.Spec PyProof.Rows
theorem yes_ans {K : PySem.W.Frag} {x t c : Value} {Hp' : Heap → Prop} (ty : ∀ (M : Model) (h : Heap), Hp' h → PySem.W.Looks M h (typeOf x) t) (e : PySem.W.kitOne K t c = some true) : Answers (fun s => K.In s.heap ∧ Hp' s.heap) x c true := by
  intro dep tk prog w A R s hs
  obtain ⟨hh, g, d, tt, os⟩ := s
  obtain ⟨⟨kin, p⟩, hq⟩ := hs
  have look := ty (model prog w) hh p
  unfold PySem.W.kitOne at e
  unfold Builtin.«isinstance.nested»
  refine wpAny_bind (PySem.W.Looks.at look ?_)
  cases q : (t == c) with
  | true =>
    rw [if_pos rfl]
    exact wpAny_bind (wpAny_rule (wpAny_pure (hq tt)))
  | false =>
    rw [q, if_neg Bool.false_ne_true] at e
    rw [if_neg Bool.false_ne_true]
    obtain ⟨l1, l2, l3⟩ := PySem.W.kit_cls (M := model prog w) kin e
    have l4 : PySem.W.Looks (model prog w) hh (isInstance x c) true := PySem.W.Looks.andThen look l3
    refine wpAny_bind (PySem.W.Looks.at l1 ?_)
    rw [if_pos (by decide)]
    k_delta "plainIsInstance"
    refine wpAny_bind (wpAny_bind (PySem.W.Looks.at l2 ?_))
    simp only [Bool.not_true, Bool.false_eq_true, if_false]
    exact wpAny_bind (PySem.W.Looks.at l4 (wpAny_pure (wpAny_pure (hq tt))))
def clsV : V → Option Value
  | .ty n => some (.type n)
  | .ref a => some (.ref a)
  | _ => none
theorem clsV_is {c : V} {cv u : Value} (h : clsV c = some cv) (r : RelV c u) : u = cv := by
  cases c with
  | ty n => cases h; exact r
  | ref a => cases h; exact r
  | _ => cases h
section
variable {X : Cx}
def rIsi (K : PySem.W.Frag) : List V → Hp → VK → Prop := fun xs H Q => ∃ x c cv, xs = [x, c] ∧ clsV c = some cv ∧
  ((∃ t b, TyOf K H x t ∧ PySem.W.kitOne K t cv = some b ∧ Q (.bl b) H) ∨ (∃ ea C, x = .ref ea ∧ H ea = some (ErrO ea C) ∧ PySem.W.kitOne K (.ref C) cv = some true ∧ Q (.bl true) H))
theorem call_isi : CallR X (.builtin "isinstance") (rIsi X.K) := by
  intro pins s σ H xs us Q I r h
  obtain ⟨x, c, cv, rfl, hc, h⟩ := h
  obtain ⟨u, u', rfl, ru, rc⟩ := vals2 r
  have e := clsV_is hc rc
  subst e
  rcases h with ⟨t, b, ty, hk, q⟩ | ⟨ea, C, rfl, hE, hk, q⟩
  · exact isinst_ok I ru ty hk fun tk => ⟨.bl b, H, I.tok tk, rfl, q⟩
  · cases ru
    obtain ⟨⟨ob, e1, e2⟩, _, _⟩ := (show ObjOk X.prog X.w H s.heap ea (ErrO ea C) from I.hok ea _ hE)
    refine call_isinstance (S := fun _ R s' => (X.K.In s'.heap ∧ (fun h : Heap => ∃ o, h.get? ea = some o ∧ o.cls = .ref C) s'.heap) ∧ ∀ tk, R (.ok (.ret (.bool true))) { s' with toks := tk })
      (fun prog w A R s' hs => isinstance_outer (yes_ans (K := X.K) (t := .ref C) (Hp' := fun h => ∃ o, h.get? ea = some o ∧ o.cls = .ref C) (fun M h p => ?_) hk 0 _ prog w A R s' hs) (by intro z; cases z)) ⟨⟨I.kIn, ⟨ob, e1, e2⟩⟩, fun tk => ⟨.bl true, H, I.tok tk, rfl, q⟩⟩
    obtain ⟨o, h1, h2⟩ := p
    exact h2 ▸ (PySem.W.Looks.ld h1).andThen .now
end
end L2
set_option Elab.async false
set_option linter.all false
set_option maxRecDepth 100000
namespace L2
open PySem PySem.Spec PyProof.Rows
theorem comp_by {J : It} {n : Nat} {item : Nat → V} {tc : TT} {te : TE} {σ : St} {fin : List V → Hp → Prop} {H : Hp} (R : Nat → List V → Hp → Prop) (hn : n ≤ sizeLine)
    (hgo : ∀ i ys H, i < n → R i ys H → J.go i H) (hy : ∀ i ys H v H', i < n → R i ys H → J.yld i H v H' → v = item i ∧ H' = H) (hstop : ∀ ys H, R n ys H → J.stop n H)
    (hl : ∀ i ys H, i ≤ n → R i ys H → ys.length ≤ i) (h0 : R 0 [] H)
    (hs : ∀ i ys H, i < n → R i ys H → ∀ G : List V → Hp → Prop, (∀ ys' H', R (i + 1) ys' H' → G ys' H') → tc (some (item i) :: σ) H fun b H2 => if b = true then te (some (item i) :: σ) H2 fun y H3 => G (ys ++ [y]) H3 else G ys H2)
    (hd : ∀ ys H, R n ys H → fin ys H) : ∃ W : Nat → Nat → List V → Hp → Prop, (∃ m, W 0 m [] H) ∧ CompW J tc te σ fin W := by
  refine ⟨fun i m ys H => m = n - i ∧ i ≤ n ∧ R i ys H, ⟨n, by omega, Nat.zero_le _, h0⟩, ?_⟩
  rintro i m ys H ⟨rfl, hi, r⟩
  refine ⟨Nat.le_trans (hl i ys H hi r) (Nat.le_trans hi hn), ?_⟩
  by_cases hlt : i < n
  · refine .inr ⟨hgo i ys H hlt r, fun v H' y => ?_⟩
    obtain ⟨rfl, rfl⟩ := hy i ys H v H' hlt r y
    exact hs i ys _ hlt r (fun ys' H2 => ∃ m', m' < n - i ∧ (m' = n - (i + 1) ∧ i + 1 ≤ n ∧ R (i + 1) ys' H2)) fun ys' H2 r' => ⟨n - (i + 1), by omega, rfl, hlt, r'⟩
  · have e : i = n := by omega
    subst e
    exact .inl ⟨hstop ys H r, hd ys H r⟩
theorem comp_range {lo : Int} {n : Nat} {tc : TT} {te : TE} {σ : St} {fin : List V → Hp → Prop} {H : Hp} (R : Nat → List V → Hp → Prop) (hn : n ≤ sizeLine)
    (hl : ∀ i ys H, i ≤ n → R i ys H → ys.length ≤ i) (h0 : R 0 [] H)
    (hs : ∀ i ys H, i < n → R i ys H → ∀ G : List V → Hp → Prop, (∀ ys' H', R (i + 1) ys' H' → G ys' H') → tc (some (.int (lo + i)) :: σ) H fun b H2 => if b = true then te (some (.int (lo + i)) :: σ) H2 fun y H3 => G (ys ++ [y]) H3 else G ys H2)
    (hd : ∀ ys H, R n ys H → fin ys H) : ∃ W : Nat → Nat → List V → Hp → Prop, (∃ m, W 0 m [] H) ∧ CompW (Itr lo n) tc te σ fin W :=
  comp_by (n := n) (item := fun i => .int (lo + i)) R hn (fun i ys H hi r => hi) (fun i ys H v H' hi r y => ⟨y.2, y.1⟩) (fun ys H r => Nat.le_refl _) hl h0 hs hd
theorem Same.put {H : Hp} {p : Addr} {o : HO} (h : H p = none) : Same H (upd H p o) := fun b u e => by
  rw [upd_ne (ne_of_none e h)]; exact e
theorem Same.and {H H' : Hp} {p : Addr} {o : HO} (s : Same H H') (h : H' p = none) : Same H (L2.upd H' p o) := s.trans (Same.put h)
theorem small {n : Nat} (h : n ≤ 10000) : n ≤ sizeLine := Nat.le_trans h (by rw [sizeLine_eq]; decide)
theorem atI_int {ns : List Int} {i : Int} (h0 : 0 ≤ i) (h1 : i < ns.length) : ∃ v, atI (ns.map V.int) i = some (V.int v) := by
  obtain ⟨k, rfl⟩ := Int.eq_ofNat_of_zero_le h0
  have hk : k < ns.length := by omega
  exact ⟨ns[k], atI_nat (by simp [hk])⟩
theorem atI_of {α : Type} {xs : List α} {i : Int} (h0 : 0 ≤ i) (h1 : i < xs.length) : ∃ v, v ∈ xs ∧ atI xs i = some v := by
  obtain ⟨k, rfl⟩ := Int.eq_ofNat_of_zero_le h0
  have hk : k < xs.length := by omega
  exact ⟨xs[k], List.getElem_mem hk, atI_nat (by simp [hk])⟩
theorem hu60 {A : Around} {k : Nat} (hr : Room k A) : A.units + 60 < cLine := Nat.lt_of_le_of_lt (Nat.add_le_add_left (by decide : 60 ≤ 64) _) hr.units
theorem hu61 {A : Around} {k : Nat} (hr : Room k A) : A.units + 61 < cLine := Nat.lt_of_le_of_lt (Nat.add_le_add_left (by decide : 61 ≤ 64) _) hr.units
end L2
set_option Elab.async false
set_option linter.all false
set_option maxRecDepth 100000
namespace L2
open PySem PySem.Spec PyProof.Rows
def notStar : Expr → Bool
  | .Starred _ _ => false
  | _ => true
theorem st_of {env : Env} {e : Expr} {es : List Expr} (h : notStar e = true) : starEach (e :: es) env = (false, eval e env) :: starEach es env := by
  cases e <;> first | rfl | cases h
theorem np_of {env : Env} {pos : Pos} : ∀ {es : List Expr}, es.all notStar = true → (backTo pos (starEach es env)).any (·.1) = false
  | [], _ => rfl
  | e :: es, h => by
    rw [List.all_cons, Bool.and_eq_true] at h
    rw [st_of h.1]
    show (false || (backTo pos (starEach es env)).any (·.1)) = false
    rw [np_of h.2]; rfl
section
variable {X : Cx} {k j : Nat} {ps : List Str} {sp : Sp} {E : XK} {x : Str} {p pos : Pos} {e : Expr} {es : List Expr} {te : TE} {t : TA} {id T : String} {r : List V → Hp → VK → Prop} {C f : Addr} {fd : FuncData}
theorem qe_def (D : Df X.prog X.w X.K X.mg X.base k x ps sp) (hr : Room j X.A) (hg : Gl X x) (hx : Passes (CXE X.prog X.w) X E) (ha : PA X (e :: es) t) (hk : k ≤ j := by decide) (h1 : notStar e = true := by rfl) (h2 : es.all notStar = true := by rfl)
    (hdb : (x == ("__debug__" : Str)) = false := by decide) : PE X (.Call (.Name x p) (e :: es) [] pos) (tCall sp [] E t) := pe_def D hr hg hx ha hk hdb (st_of h1) (np_of h2)
theorem qe_callB (hc : CallR X (.builtin id) r) (hg : Gl X x) (hm : X.mg x = none) (hv : bootBuiltins x = some (.builtin id)) (ha : PA X (e :: es) t) (h1 : notStar e = true := by rfl) (h2 : es.all notStar = true := by rfl) (hn : x ≠ "__name__" := by decide)
    (hdb : (x == ("__debug__" : Str)) = false := by decide) : PE X (.Call (.Name x p) (e :: es) [] pos) (tCB r t) := pe_callB hc hg hm hv ha hn hdb (st_of h1) (np_of h2)
theorem qe_callTy (hc : CallR X (.type T) r) (hg : Gl X x) (hm : X.mg x = none) (hv : bootBuiltins x = some (.type T)) (ha : PA X (e :: es) t) (h1 : notStar e = true := by rfl) (h2 : es.all notStar = true := by rfl) (hn : x ≠ "__name__" := by decide)
    (hdb : (x == ("__debug__" : Str)) = false := by decide) : PE X (.Call (.Name x p) (e :: es) [] pos) (tCB r t) := pe_callTy hc hg hm hv ha hn hdb (st_of h1) (np_of h2)
end
structure Md (P : Program) (w : World) (K : PySem.W.Frag) (mg : Str → Option Value) (base : Heap) (k : Nat) (x : Str) (ps : List Str) (C : Addr) (sp : Sp) : Prop where
  ex : ∃ f fd, Mk K C f ∧ FnOk P w K mg base (CXE P w) k f fd ps sp ∧ mg x = some (.ref C) ∧ Binds K fd ps []
section
variable {X : Cx} {k j : Nat} {ps : List Str} {sp : Sp} {E : XK} {x : Str} {p pos : Pos} {e : Expr} {es : List Expr} {te : TE} {t : TA} {C : Addr}
theorem qe_make (D : Md X.prog X.w X.K X.mg X.base k x ps C sp) (hr : Room j X.A) (hg : Gl X x) (hx : Passes (CXE X.prog X.w) X E) (ha : PA X (e :: es) t) (hk : k + 1 ≤ j := by decide) (h1 : notStar e = true := by rfl) (h2 : es.all notStar = true := by rfl)
    (hdb : (x == ("__debug__" : Str)) = false := by decide) : PE X (.Call (.Name x p) (e :: es) [] pos) (tMake C sp [] E t) := by
  obtain ⟨f, fd, M, F, hm, hb⟩ := D.ex
  exact pe_make M F (hr.mono hk) hg hm hb .nil hx ha hdb (st_of h1) (np_of h2)
end
end L2
set_option Elab.async false
set_option linter.all false
set_option maxRecDepth 100000
namespace L2
open PySem PySem.Spec PyProof.Rows
structure RE (X : Cx) (e : Expr) (t : TE) : Prop where ok : PE X e t
structure RT (X : Cx) (e : Expr) (t : TT) : Prop where ok : PT X e t
structure RB (X : Cx) (e : Expr) (t : TT) : Prop where ok : PW X e t
structure RA (X : Cx) (es : List Expr) (t : TA) : Prop where ok : PA X es t
structure RS (X : Cx) (st : Stmt) (t : TS) : Prop where ok : PS X st t
structure RSs (X : Cx) (st : List Stmt) (t : TS) : Prop where ok : PSs X st t
structure RI (X : Cx) (tg iter : Expr) (t : TI) : Prop where ok : PI X tg iter t
structure RG (X : Cx) (tg : Expr) (t : TG) : Prop where ok : PG X tg t
structure RGs (X : Cx) (ts : List Expr) (t : TGs) : Prop where ok : PGs X ts t
structure RIf (X : Cx) (ifs : List Expr) (t : TT) : Prop where ok : PIfs X ifs t
structure REX (X : Cx) (e : Expr) (t : TEX) : Prop where ok : PEX X e t
structure RSX (X : Cx) (st : List Stmt) (t : TSX) : Prop where ok : PSX X st t
structure RH (X : Cx) (hs : List ExceptHandler) (th : Addr → TS) : Prop where ok : PH X hs th
def notComp : Expr → Bool
  | .ListComp _ _ _ _ => false
  | .SetComp _ _ _ _ => false
  | .DictComp _ _ _ _ _ => false
  | _ => true
theorem sw_of {e : Expr} {t : Option Expr} {n : Nat} {env : Env} (h : notComp e = true) : swapsWith e t n env = pure false := by
  cases e <;> first | rfl | cases h
def plainT : Expr → Bool
  | .Call _ _ _ _ => true
  | .Name _ _ => true
  | .Constant _ _ _ => true
  | .Attribute _ _ _ => true
  | .Subscript _ _ _ => true
  | _ => false
theorem pl_of {e : Expr} {env : Env} (h : plainT e = true) : ∀ whole, isTrue e env whole = (do let v ← whole; standAt e.pos; holding [v] (truthy v)) := by
  intro whole
  cases e <;> first | rfl | cases h
def noSlice : Expr → Bool
  | .Name _ _ => true
  | .Constant _ _ _ => true
  | .BinOp _ _ _ _ => true
  | .UnaryOp _ _ _ => true
  | .Call _ _ _ _ => true
  | .Subscript _ _ _ => true
  | .Attribute _ _ _ => true
  | _ => false
theorem ix_of {b : Expr} (h : noSlice b = true) : PlainIx b := by
  intro o i
  cases b <;> first | rfl | cases h
section
variable {X : Cx} {a b c e o : Expr} {es rest : List Expr} {ta tb tc te to : TE} {t : TA} {tA tB' : TT} {pos p : Pos} {i : Nat} {x : Str}
theorem rv (i : Nat) (hN : X.N[i]? = some x := by rfl) (hv : Vis X.env.scope x := by first | exact Or.inl rfl | exact Or.inr (Or.inl rfl) | exact Or.inr (Or.inr rfl)) (hd : (x == ("__debug__" : Str)) = false := by decide)
    (hcd : (x == ("__classdict__" : Str)) = false := by decide) : RE X (.Name x pos) (tVar i) := ⟨pe_var hN hv hd hcd⟩
theorem r_int {i j pos} : RE X (.Constant (.int i) j pos) (tC (.int i)) := ⟨pe_int⟩
theorem r_bl {b j pos} : RE X (.Constant (.bool b) j pos) (tC (.bl b)) := ⟨pe_bl⟩
theorem r_non {j pos} : RE X (.Constant .none j pos) (tC .non) := ⟨pe_non⟩
theorem r_str {z j pos} : RE X (.Constant (.str z) j pos) (tC (.str z)) := ⟨pe_str⟩
theorem r_gint {i : Int} (h : ∃ t, X.mg x = some (.int i t)) (hg : Gl X x) (hd : (x == ("__debug__" : Str)) = false := by decide) : RE X (.Name x pos) (tC (.int i)) := ⟨pe_gint h hg hd⟩
theorem r_gstr {z : Str} (h : ∃ t, X.mg x = some (.str z t)) (hg : Gl X x) (hd : (x == ("__debug__" : Str)) = false := by decide) : RE X (.Name x pos) (tC (.str z)) := ⟨pe_gstr h hg hd⟩
theorem r_cls {C : Addr} (hm : X.mg x = some (.ref C)) (hg : Gl X x) (hd : (x == ("__debug__" : Str)) = false := by decide) : RE X (.Name x pos) (tC (.ref C)) := ⟨pe_glob hg hm rfl hd⟩
theorem r_ty {n : String} (hm : X.mg x = none) (hg : Gl X x) (hv : bootBuiltins x = some (.type n)) (hn : x ≠ "__name__" := by decide) (hd : (x == ("__debug__" : Str)) = false := by decide) : RE X (.Name x pos) (tC (.ty n)) := ⟨pe_bltn hg hm hv rfl hn hd⟩
theorem r_op {op : Operator} {r : R2} (ho : OpR X (binaryOp op) r) (ha : RE X a ta) (hb : RE X b tb) : RE X (.BinOp a op b pos) (tOp r ta tb) := ⟨pe_op ho ha.ok hb.ok⟩
theorem r_un {op : UnaryOp} {r : V → Hp → VK → Prop} (ho : UnR X (unaryOp op) r) (ha : RE X a ta) : RE X (.UnaryOp op a pos) (tUn r ta) := ⟨pe_un ho ha.ok⟩
theorem r_cmp {op : CmpOp} {r : R2} (ho : OpR X (compareOp op) r) (ha : RE X a ta) (hb : RE X b tb) (hm : behindInMarks op b = false) : RE X (.Compare a [op] [b] pos) (tOp r ta tb) := ⟨pe_cmpR ho ha.ok hb.ok hm⟩
theorem rt_cmp {op : CmpOp} {r : R2} (ho : OpR X (compareOp op) r) (ha : RE X a ta) (hb : RE X b tb) (hm : behindInMarks op b = false) : RT X (.Compare a [op] [b] pos) (tTest (tOp r ta tb)) := ⟨pt_cmpR ho ha.ok hb.ok hm⟩
theorem r_chain {op op' : CmpOp} {r r' : R2} (ho : OpR X (compareOp op) r) (ho' : OpR X (compareOp op') r') (ha : RE X a ta) (hb : RE X b tb) (hc : RE X c tc)
    (hm : lastMarks [op, op'] [b, c] = false := by with_unfolding_all rfl) : RE X (.Compare a [op, op'] [b, c] pos) (tChain r r' ta tb tc) := ⟨pe_chain ho ho' ha.ok hb.ok hc.ok hm⟩
theorem rt_chain {op op' : CmpOp} {r r' : R2} (ho : OpR X (compareOp op) r) (ho' : OpR X (compareOp op') r') (ha : RE X a ta) (hb : RE X b tb) (hc : RE X c tc)
    (hm : lastMarks [op, op'] [b, c] = false := by with_unfolding_all rfl) : RT X (.Compare a [op, op'] [b, c] pos) (tTest (tChain r r' ta tb tc)) := ⟨pt_chain ho ho' ha.ok hb.ok hc.ok hm⟩
theorem rt_val (h : RE X e te) (he : plainT e = true := by rfl) : RT X e (L2.tB te) := ⟨pt_val h.ok (pl_of he)⟩
theorem rb_and1 (ha : RT X a tA) : RB X (.BoolOp .And [a] pos) tA := ⟨pw_and1 ha.ok⟩
theorem rb_or1 (ha : RT X a tA) : RB X (.BoolOp .Or [a] pos) tA := ⟨pw_or1 ha.ok⟩
theorem rb_and (ha : RT X a tA) (hb : RB X (.BoolOp .And (b :: rest) pos) tB') : RB X (.BoolOp .And (a :: b :: rest) pos) (tAnd tA tB') := ⟨pw_and ha.ok hb.ok⟩
theorem rb_or (ha : RT X a tA) (hb : RB X (.BoolOp .Or (b :: rest) pos) tB') : RB X (.BoolOp .Or (a :: b :: rest) pos) (tOr tA tB') := ⟨pw_or ha.ok hb.ok⟩
theorem rt_b (h : RB X e tA) : RT X e tA := ⟨h.ok.pt⟩
theorem rt_not (ha : RT X a tA) : RT X (.UnaryOp .Not a pos) (tNot tA) := ⟨pt_not ha.ok⟩
theorem r_one {op} {t : TE} (h : RE X a t) : RE X (.BoolOp op [a] pos) t := ⟨pe_one h.ok⟩
theorem r_and (ha : RE X a ta) (hb : RE X (.BoolOp .And (b :: rest) pos) tb) : RE X (.BoolOp .And (a :: b :: rest) pos) (tAndV ta tb) := ⟨pe_and ha.ok hb.ok⟩
theorem r_not (ha : RE X a ta) : RE X (.UnaryOp .Not a pos) (tNotV ta) := ⟨pe_not ha.ok⟩
theorem ra_nil : RA X [] tNil := ⟨pa_nil⟩
theorem ra_cons (ha : RE X e te) (hr : RA X es t) (hs : notStar e = true := by rfl) : RA X (e :: es) (tCons te t) := ⟨pa_cons ha.ok hr.ok (st_of hs)⟩
theorem r_tup {x1} (h : RA X es t) : RE X (.Tuple es x1 pos) (tTup t) := ⟨pe_tup h.ok⟩
theorem r_lst (h : RA X es t) : RE X (.List es pos) (tLst t) := ⟨pe_lst h.ok⟩
theorem r_ix {r : R2} (hr : IxR X r) (ha : RE X a ta) (hb : RE X b tb) (hs : noSlice b = true := by rfl) : RE X (.Subscript a b pos) (tOp r ta tb) := ⟨pe_ix hr ha.ok hb.ok (ix_of hs)⟩
theorem r_fld {f : Str} (he : RE X e ta) (hb : attributeBase e f X.env (eval e X.env) = eval e X.env := by rfl) : RE X (.Attribute e f pos) (tFld X.K ta f) := ⟨pe_fld he.ok hb⟩
variable {k j : Nat} {ps : List Str} {sp : Sp} {E : XK} {id T : String} {r : List V → Hp → VK → Prop} {C : Addr}
theorem r_def (D : Df X.prog X.w X.K X.mg X.base k x ps sp) (hr : Room j X.A) (hg : Gl X x) (hx : Passes (CXE X.prog X.w) X E) (ha : RA X (e :: es) t) (hk : k ≤ j := by decide) (h1 : notStar e = true := by rfl) (h2 : es.all notStar = true := by rfl)
    (hdb : (x == ("__debug__" : Str)) = false := by decide) : RE X (.Call (.Name x p) (e :: es) [] pos) (tCall sp [] E t) := ⟨qe_def D hr hg hx ha.ok hk h1 h2 hdb⟩
theorem r_make (D : Md X.prog X.w X.K X.mg X.base k x ps C sp) (hr : Room j X.A) (hg : Gl X x) (hx : Passes (CXE X.prog X.w) X E) (ha : RA X (e :: es) t) (hk : k + 1 ≤ j := by decide) (h1 : notStar e = true := by rfl) (h2 : es.all notStar = true := by rfl)
    (hdb : (x == ("__debug__" : Str)) = false := by decide) : RE X (.Call (.Name x p) (e :: es) [] pos) (tMake C sp [] E t) := ⟨qe_make D hr hg hx ha.ok hk h1 h2 hdb⟩
theorem r_callB (hc : CallR X (.builtin id) r) (hg : Gl X x) (hm : X.mg x = none) (hv : bootBuiltins x = some (.builtin id)) (ha : RA X (e :: es) t) (h1 : notStar e = true := by rfl) (h2 : es.all notStar = true := by rfl) (hn : x ≠ "__name__" := by decide)
    (hdb : (x == ("__debug__" : Str)) = false := by decide) : RE X (.Call (.Name x p) (e :: es) [] pos) (tCB r t) := ⟨qe_callB hc hg hm hv ha.ok h1 h2 hn hdb⟩
theorem r_callTy (hc : CallR X (.type T) r) (hg : Gl X x) (hm : X.mg x = none) (hv : bootBuiltins x = some (.type T)) (ha : RA X (e :: es) t) (h1 : notStar e = true := by rfl) (h2 : es.all notStar = true := by rfl) (hn : x ≠ "__name__" := by decide)
    (hdb : (x == ("__debug__" : Str)) = false := by decide) : RE X (.Call (.Name x p) (e :: es) [] pos) (tCB r t) := ⟨qe_callTy hc hg hm hv ha.ok h1 h2 hn hdb⟩
theorem few_of {env : Env} {cpos : Pos} : ∀ {es : List Expr}, es.all notStar = true → (backTo cpos (starEach es env)).all (fun x => !x.1) = true
  | [], _ => rfl
  | e :: es, h => by
    rw [List.all_cons, Bool.and_eq_true] at h
    rw [st_of h.1]
    show ((!false) && (backTo cpos (starEach es env)).all (fun x => !x.1)) = true
    rw [few_of h.2]; rfl
variable {name : Str} {apos cpos : Pos} {rm : V → List V → Hp → VK → Prop}
theorem r_bm (pa : PlainAttrs T) (slot : Slot T name id) (hty : typeOf (.builtin id) = pure (.type "method_descriptor")) (hm : MtR X id rm) (ho : RE X o to) (ha : RA X (e :: es) t) (h1 : (e :: es).all notStar = true := by rfl)
    (hbase : attributeBase o name X.env (eval o X.env) = eval o X.env := by rfl) (hlen : decide ((e :: es).length < 30) = true := by rfl) (hline : (apos.endLine == cpos.line) = true := by rfl) : RE X (.Call (.Attribute o name apos) (e :: es) [] cpos) (tBM X.K T rm to t) := by
  have h1' := h1
  rw [List.all_cons, Bool.and_eq_true] at h1'
  refine ⟨pe_bm pa slot hty hm ho.ok ha.ok hbase ?_ hline (st_of h1'.1) (np_of h1'.2)⟩
  rw [few_of h1]
  have : decide ((e :: es).length + ([] : List Keyword).length + (if ([] : List Keyword).isEmpty then 0 else 1) < 30) = true := by simpa using hlen
  rw [this]; rfl
theorem r_bm0 (pa : PlainAttrs T) (slot : Slot T name id) (hty : typeOf (.builtin id) = pure (.type "method_descriptor")) (hm : MtR X id rm) (ho : RE X o to)
    (hbase : attributeBase o name X.env (eval o X.env) = eval o X.env := by rfl) (hline : (apos.endLine == cpos.line) = true := by rfl) : RE X (.Call (.Attribute o name apos) [] [] cpos) (tBM0 X.K T rm to) := ⟨pe_bm0 pa slot hty hm ho.ok hbase hline⟩
end
section
variable {X : Cx} {tg l : Expr} {te : TE} {ta : TA} {p pos : Pos}
theorem ri_list (hl : RE X l te) : RI X tg l (iList X.K te) := ⟨pi_list hl.ok⟩
theorem ri_str (hl : RE X l te) : RI X tg l (iStr te) := ⟨pi_str hl.ok⟩
theorem ri_range1 {a : Expr} (hg : Gl X "range") (hm : X.mg "range" = none) (ha : RA X [a] ta) (hs : notStar a = true := by rfl) : RI X tg (.Call (.Name "range" p) [a] [] pos) (iRng1 ta) := ⟨pi_range1 hg hm ha.ok (st_of hs)⟩
theorem ri_range2 {a b : Expr} (hg : Gl X "range") (hm : X.mg "range" = none) (ha : RA X [a, b] ta) (hs : notStar a = true := by rfl) (hs2 : notStar b = true := by rfl) : RI X tg (.Call (.Name "range" p) [a, b] [] pos) (iRng2 ta) :=
  ⟨pi_range2 hg hm ha.ok (by rw [st_of hs, st_of hs2]; rfl) (st_of hs2)⟩
theorem rif_nil : RIf X [] tYes := ⟨pif_nil⟩
theorem rif_one {c : Expr} {t : TT} (h : RT X c t) : RIf X [c] t := ⟨pif_one h.ok⟩
theorem r_comp {x : Str} {px : Pos} {scope : Scope} {elt iter : Expr} {ifs : List Expr} {wi : TI} {tc : TT} (ok : compOk scope X.env.scope X.N x = true) (hc : X.calm = true) (hi : RI X (.Name x px) iter wi)
    (hif : ∀ s H ex, RIf (cxComp X x scope s H ex) ifs tc) (he : ∀ s H ex, RE (cxComp X x scope s H ex) elt te) (hs : ∀ v, foldedSetIterable iter X.env v = pure v := by intro _; rfl) :
    RE X (.ListComp elt [⟨.Name x px, iter, ifs, 0⟩] scope pos) (tComp wi tc te) := ⟨pe_comp ok hc hi.ok (fun s H ex => (hif s H ex).ok) (fun s H ex => (he s H ex).ok) hs⟩
end
section
variable {X : Cx} {st : Stmt} {rest body : List Stmt} {t u tb : TS} {e tg iter : Expr} {te : TE} {pos : Pos} {i : Nat} {x : Str}
theorem rss_nil : RSs X [] tNext := ⟨pss_nil⟩
theorem rss_cons (h1 : RS X st t) (h2 : RSs X rest u) : RSs X (st :: rest) (tSeq t u) := ⟨pss_cons h1.ok h2.ok⟩
theorem rss_one (h1 : RS X st t) : RSs X [st] t := ⟨pss_one h1.ok⟩
theorem rs_expr (he : RE X e te) (hs : notComp e = true := by rfl) : RS X (.Expr e pos) (tDrop te) := ⟨ps_expr he.ok (sw_of hs)⟩
theorem rs_ret (he : RE X e te) : RS X (.Return (some e) pos) (tRet te) := ⟨ps_ret he.ok⟩
theorem rs_if {c : Expr} {a b : List Stmt} {tc : TT} (hc : RT X c tc) (ha : RSs X a t) (hb : RSs X b u) : RS X (.If c a b pos) (tIfS tc t u) := ⟨ps_if hc.ok ha.ok hb.ok⟩
theorem rg_name (hN : X.N.Nodup) (hi : X.N[i]? = some x) (hx : Loc X.env.scope x) (hf : X.fn x = true ∨ X.env.scope.names.lookup x = some .local := by first | exact .inl rfl | exact .inr rfl | assumption) : RG X (.Name x pos) (gName i) := ⟨pg_name hN hi hx hf⟩
theorem rgs_nil : RGs X [] gNil := ⟨pgs_nil⟩
def noStarT : Expr → Bool
  | .Name _ _ => true
  | .Subscript _ _ _ => true
  | _ => false
theorem as_of {es : List Expr} {env : Env} (h : noStarT e = true) : (assignEach (e :: es) env).map (·.2) = assign e env :: (assignEach es env).map (·.2) := by
  cases e <;> first | rfl | cases h
theorem rgs_cons {es : List Expr} {t : TG} {u : TGs} (h1 : RG X e t) (h2 : RGs X es u) (hs : noStarT e = true := by rfl) : RGs X (e :: es) (gCons t u) := ⟨pgs_cons h1.ok h2.ok (as_of hs)⟩
theorem rg_tup {es : List Expr} {k : Nat} {t : TGs} {n : Nat} (hc : X.calm = true) (h : RGs X es t) (hn : (assignEach es X.env).length = n := by rfl) (hst : (assignEach es X.env).findIdx? (·.1) = none := by rfl) : RG X (.Tuple es k pos) (gTup X.K n t) := ⟨pg_tup hc h.ok hn hst⟩
theorem rg_sub {o i : Expr} {to ti : TE} {t : TSet} (ho : RE X o to) (hi : RE X i ti) (hs : PSet X t) (ha : ∀ v, assign (.Subscript o i pos) X.env v = (do
      let ov ← holding [v] (eval o X.env)
      let iv ← holding [v, ov] (eval i X.env)
      standAt pos
      holding [v, ov, iv] (setItem ov iv v)
      release [v, ov, iv] []) := by intro _; rfl) : RG X (.Subscript o i pos) (gSub to ti t) := ⟨pg_sub ho.ok hi.ok hs ha⟩
theorem rs_asg {g : TG} (he : RE X e te) (hg : RG X tg g) (hs : swapsWithSole [tg] e pos.line X.env = pure false := by rfl) (hw : swappedStores [tg] e X.env = pure none := by rfl) (h1 : (assignEach [tg] X.env).map (·.2) = [assign tg X.env] := by rfl) : RS X (.Assign [tg] e pos) (tAsg te g) := ⟨ps_asg he.ok hg.ok hs hw h1⟩
theorem rs_set {pos' : Pos} (hN : X.N.Nodup) (hi : X.N[i]? = some x) (hx : Loc X.env.scope x) (he : RE X e te) (hs : notComp e = true := by rfl) (hf : X.fn x = true ∨ X.env.scope.names.lookup x = some .local := by first | exact .inl rfl | exact .inr rfl | assumption) :
    RS X (.Assign [.Name x pos'] e pos) (tAsg te (gName i)) := ⟨ps_set hN hi hx he.ok (sw_of hs) hf⟩
theorem rs_par {j : Nat} {y : Str} {a b : Expr} {ta : TA} {px py pt : Pos} {kt k2 pt2} (hc : X.calm = true) (hN : X.N.Nodup) (hi : X.N[i]? = some x) (hj : X.N[j]? = some y) (hij : i ≠ j)
    (hx : X.env.scope.names.lookup x = some .local) (hy : X.env.scope.names.lookup y = some .local) (ha : RA X [a, b] ta) (hw : swappedStores [.Tuple [.Name x px, .Name y py] kt pt] (.Tuple [a, b] k2 pt2) X.env = pure (some [x, y])) :
    RS X (.Assign [.Tuple [.Name x px, .Name y py] kt pt] (.Tuple [a, b] k2 pt2) pos) (tPar i j ta) := ⟨ps_par hc hN hi hj hij hx hy ha.ok hw⟩
theorem rs_for {wi : TI} {g : TG} (hp : PassesOwn (model X.prog X.w) X.A X.env X.xe) (hc : X.calm = true) (hi : RI X tg iter wi) (hg : RG X tg g) (hb : RSs X body tb) (hs : ∀ x, foldedSetIterable iter X.env x = pure x := by intro _; rfl) :
    RS X (.For tg iter body [] pos) (tFor wi g tb) := ⟨ps_for hp hc hi.ok hg.ok hb.ok hs⟩
theorem rs_while {c : Expr} {tc : TT} (hp : PassesOwn (model X.prog X.w) X.A X.env X.xe) (hc : RT X c tc) (hb : RSs X body tb) : RS X (.While c body [] pos) (tWhile tc tb) := ⟨ps_while hp hc.ok hb.ok⟩
theorem rs_fld {o value : Expr} {f : Str} {ta tv : TE} {pos' : Pos} (ha : RE X o ta) (hv : RE X value tv) (hs : notComp value = true := by rfl) : RS X (.Assign [.Attribute o f pos'] value pos) (sFld X.K ta tv f) := ⟨ps_fld ha.ok hv.ok (sw_of hs)⟩
theorem rs_comp {y : Str} {py px spos : Pos} {scope : Scope} {elt : Expr} {ifs : List Expr} {wi : TI} {tc : TT} (hN : X.N.Nodup) (hiy : X.N[i]? = some y) (hy : X.env.scope.names.lookup y = some .local)
    (ok : compOk scope X.env.scope X.N x = true) (hc : X.calm = true) (hi : RI X (.Name x px) iter wi) (hif : ∀ s H ex, RIf (cxComp X x scope s H ex) ifs tc) (he : ∀ s H ex, RE (cxComp X x scope s H ex) elt te)
    (hsw : swapsWith (.ListComp elt [⟨.Name x px, iter, ifs, 0⟩] scope pos) (some (.Name y py)) spos.line X.env = pure true := by rfl) (hs : ∀ v, foldedSetIterable iter X.env v = pure v := by intro _; rfl) :
    RS X (.Assign [.Name y py] (.ListComp elt [⟨.Name x px, iter, ifs, 0⟩] scope pos) spos) (tCompS i wi tc te) := ⟨ps_comp hN hiy hy ok hc hi.ok (fun s H ex => (hif s H ex).ok) (fun s H ex => (he s H ex).ok) hsw hs⟩
theorem RS.nox (h : RS X.nox st t) : RS X st t := ⟨PS.nox h.ok⟩
theorem RT.nox {tt : TT} (h : RT X.nox e tt) : RT X e tt := ⟨PT.nox h.ok⟩
theorem rsx_ret {te : TEX} (he : REX X e te) : RSX X [.Return (some e) pos] (tRetX te) := ⟨psx_ret he.ok⟩
theorem rh_nil : RH X [] (fun _ _ _ _ => False) := ⟨ph_nil⟩
theorem rh_cons {n : Str} {np hpos : Pos} {b₀ : Stmt} {suite : List Stmt} {hrest : List ExceptHandler} {C' : Addr} {ts : TS} {th : Addr → TS} (hex : X.ex = []) (hN : X.N.Nodup) (hi : X.N[i]? = some n) (hn : X.env.scope.names.lookup n = some .local)
    (hg : Gl X x) (hm : X.mg x = some (.ref C')) (c' : ErrCls X.K C') (hs : ∀ ea, RSs (cxHand X ea) (b₀ :: suite) ts) (hr : RH X hrest th) (hd : (x == ("__debug__" : Str)) = false := by decide) :
    RH X (.ExceptHandler (some (.Name x np)) (some n) (b₀ :: suite) hpos :: hrest) (thCons X.K C' i ts th) := ⟨ph_cons hex hN hi hn hg hm c' (fun ea => (hs ea).ok) hr.ok hd⟩
theorem rs_try {h₀ : ExceptHandler} {hs : List ExceptHandler} {tb : TSX} {th : Addr → TS} (hst : X.stack = X.env :: X.outer) (hfr : X.env.frame = some X.env.locals) (hb : RSX X body tb) (hh : RH X (h₀ :: hs) th) :
    RS X (.Try body (h₀ :: hs) [] [] pos) (tTry tb th) := ⟨ps_try hst hfr hb.ok hh.ok⟩
end
section
variable {P : Program} {w : World} {K : PySem.W.Frag} {mg : Str → Option Value} {base : Heap} {N : List Str} {qual : Str} {scope : Scope} {f : Addr} {cd : Value} {A : Around} {outer : List Env} {s0 : Shared} {H0 : Hp} {E : XK}
theorem rs_raise {x : Str} {np cpos pos : Pos} {e₀ : Expr} {rest : List Expr} {t : TA} {C : Addr} (c : ErrCls K C) (hg : Gl (cxOf (CXE P w) P w K mg base N qual scope f cd A outer s0 H0 E) x) (hm : mg x = some (.ref C)) (hh : A.handled = none)
    (ha : RA (cxOf (CXE P w) P w K mg base N qual scope f cd A outer s0 H0 E) (e₀ :: rest) t) (h1 : notStar e₀ = true := by rfl) (h2 : rest.all notStar = true := by rfl) (hd : (x == ("__debug__" : Str)) = false := by decide) :
    RS (cxOf (CXE P w) P w K mg base N qual scope f cd A outer s0 H0 E) (.Raise (some (.Call (.Name x np) (e₀ :: rest) [] cpos)) none pos) (tRaise t C E) := ⟨ps_raise c hg hm hh ha.ok hd (st_of h1) (np_of h2)⟩
theorem Fun.rokE {x qual : Str} {st : Stmt} {f : Addr} {fd : FuncData} {N ps : List Str} {k : Nat} {sp : Sp} (F : Fun K x qual st f fd) (S : FnScope N ps (defScope st)) (len : ∀ vs H Q E, sp vs H Q E → vs.length = ps.length)
    (hbody : ∀ (cdv : Value) (A : Around) (outer : List Env) (s : Shared) (H : Hp) (vs : List V) (Q : VK) (E : XK), Room k (A.deeper (envOfC qual (defScope st) s.heap.objs.size f cdv)) → sp vs H Q E →
      ∃ t, RSs (cxOf (CXE P w) P w K mg base N qual (defScope st) f cdv A outer s H E) (defBody st) t ∧ t { nx := fun _ H' => Q .non H', rt := Q } (start N vs) H) : FnOk P w K mg base (CXE P w) (k + 1) f fd ps sp :=
  F.okE S len fun cdv A outer s H vs Q E hr hsp => let ⟨t, h, q⟩ := hbody cdv A outer s H vs Q E hr hsp; ⟨t, h.ok, q⟩
theorem Fun.rok {x qual : Str} {st : Stmt} {f : Addr} {fd : FuncData} {N ps : List Str} {k : Nat} {sp : Sp} (F : Fun K x qual st f fd) (S : FnScope N ps (defScope st)) (len : ∀ vs H Q E, sp vs H Q E → vs.length = ps.length)
    (hbody : ∀ (cdv : Value) (A : Around) (outer : List Env) (s : Shared) (H : Hp) (vs : List V) (Q : VK) (E : XK), Room k (A.deeper (envOfC qual (defScope st) s.heap.objs.size f cdv)) → sp vs H Q E →
      ∃ t, RSs (cxOf (CXE P w) P w K mg base N qual (defScope st) f cdv A outer s H E).nox (defBody st) t ∧ t { nx := fun _ H' => Q .non H', rt := Q } (start N vs) H) : FnOk P w K mg base (CXE P w) (k + 1) f fd ps sp :=
  F.ok0 S len fun cdv A outer s H vs Q E hr hsp => let ⟨t, h, q⟩ := hbody cdv A outer s H vs Q E hr hsp; ⟨t, h.ok, q⟩
end
end L2
set_option Elab.async false
set_option linter.all false
set_option maxRecDepth 100000
namespace L2
open PySem PySem.Spec PyProof.Rows
mutual
theorem Den.mono {K : PySem.W.Frag} {H H' : Hp} (s : Same H H') : ∀ {v : V} {d : Dt}, Den K H v d → Den K H' v d
  | _, _, .non => .non
  | _, _, .bl b => .bl b
  | _, _, .int i => .int i
  | _, _, .str x => .str x
  | _, _, .tup h hs => .tup (s _ _ h) (Dens.mono s hs)
  | _, _, .lst h hs => .lst (s.seq h) (Dens.mono s hs)
theorem Dens.mono {K : PySem.W.Frag} {H H' : Hp} (s : Same H H') : ∀ {vs : List V} {ds : List Dt}, Dens K H vs ds → Dens K H' vs ds
  | _, _, .nil => .nil
  | _, _, .cons h t => .cons (Den.mono s h) (Dens.mono s t)
end
theorem Dens.strs {K : PySem.W.Frag} {H : Hp} : ∀ zs : List Str, Dens K H (zs.map V.str) (zs.map Dt.str)
  | [] => .nil
  | z :: zs => .cons (.str z) (Dens.strs zs)
theorem Dens.of_bls {K : PySem.W.Frag} {H : Hp} : ∀ {bs : List Bool} {vs : List V}, Dens K H vs (bs.map Dt.bl) → vs = bs.map V.bl
  | [], _, .nil => rfl
  | n :: ns, _, .cons h t => by cases h; rw [Dens.of_bls t]; rfl
structure ItOver (J : It) (H : Hp) (vs : List V) : Prop where
  go : ∀ H' i, Same H H' → i < vs.length → J.go i H'
  yld : ∀ H' i v H'', Same H H' → i < vs.length → J.yld i H' v H'' → vs[i]? = some v ∧ H'' = H'
  stop : ∀ H', Same H H' → J.stop vs.length H'
theorem over_list {K : PySem.W.Frag} {H : Hp} {a : Addr} {vs : List V} (h : SqL K H a vs) : ItOver (Itl K a) H vs :=
  ⟨fun H' i s hi => ⟨vs, vs[i], s.seq h, by simp [hi]⟩, fun H' i v H'' s hi y => ⟨y.2 vs (s.seq h), y.1⟩, fun H' s => ⟨vs, s.seq h, Nat.le_refl _⟩⟩
theorem over_range {H : Hp} (lo : Int) (n : Nat) : ItOver (Itr lo n) H (((List.range n).map fun i : Nat => lo + (i : Int)).map V.int) := by
  have hl : (((List.range n).map fun i : Nat => lo + (i : Int)).map V.int).length = n := by simp
  refine ⟨fun H' i _ hi => ?_, fun H' i v H'' _ hi y => ⟨?_, y.1⟩, fun H' _ => ?_⟩
  · rw [hl] at hi; exact hi
  · rw [hl] at hi
    rw [y.2]
    simp [hi]
  · rw [hl]; exact Nat.le_refl _
theorem over_str {H : Hp} (z : Str) : ItOver (Its z) H ((z.cps.toList.map fun c => (⟨#[c]⟩ : Str)).map V.str) := by
  have hl : ((z.cps.toList.map fun c => (⟨#[c]⟩ : Str)).map V.str).length = z.cps.size := by simp
  refine ⟨fun H' i _ hi => ?_, fun H' i v H'' _ hi y => ?_, fun H' _ => ?_⟩
  · rw [hl] at hi; exact hi
  · rw [hl] at hi
    obtain ⟨e, c, ec, y⟩ := y
    have : z.cps.toList[i]? = some c := by simpa using ec
    exact ⟨by rw [y]; simp [this], e⟩
  · rw [hl]; exact Nat.le_refl _
theorem comp_den {α : Type} {K : PySem.W.Frag} {J : It} {H : Hp} {vs : List V} {xs : List α} {enc : α → Dt} {tc : TT} {te : TE} {σ : St} {fin : List V → Hp → Prop} (hJ : ItOver J H vs) (hx : Dens K H vs (xs.map enc)) (hn : xs.length ≤ sizeLine) (p : α → Bool) (f : α → Dt)
    (ht : ∀ a ∈ xs, ∀ v H', Same H H' → Den K H' v (enc a) → ∀ G : Bool → Hp → Prop, (∀ H'', Same H' H'' → G (p a) H'') → tc (some v :: σ) H' G)
    (hf : ∀ a ∈ xs, p a = true → ∀ v H', Same H H' → Den K H' v (enc a) → ∀ G : VK, (∀ y H'', Same H' H'' → Den K H'' y (f a) → G y H'') → te (some v :: σ) H' G)
    (hd : ∀ ys H', Same H H' → Dens K H' ys ((xs.filter p).map f) → fin ys H') : ∃ W : Nat → Nat → List V → Hp → Prop, (∃ m, W 0 m [] H) ∧ CompW J tc te σ fin W := by
  have hlv : vs.length = xs.length := by rw [hx.length, List.length_map]
  refine comp_by (n := vs.length) (item := fun i => vs.getD i .non) (fun i ys H' => Same H H' ∧ Dens K H' ys (((xs.take i).filter p).map f)) (by rw [hlv]; exact hn) (fun i ys H' hi r => hJ.go H' i r.1 hi) (fun i ys H' v H'' hi r y => ?_) (fun ys H' r => hJ.stop H' r.1)
    (fun i ys H' hi r => ?_) ⟨Same.refl _, .nil⟩ (fun i ys H' hi r G hG => ?_) (fun ys H' r => ?_)
  · obtain ⟨e, e'⟩ := hJ.yld H' i v H'' r.1 hi y
    exact ⟨by rw [List.getD_eq_getElem?_getD, e]; rfl, e'⟩
  · rw [r.2.length, List.length_map]
    exact Nat.le_trans (List.length_filter_le _ _) (by rw [List.length_take]; exact Nat.min_le_left _ _)
  · obtain ⟨s1, D⟩ := r
    have hi' : i < xs.length := by omega
    have ev : vs[i]? = some (vs.getD i .non) := by simp [List.getD_eq_getElem?_getD, hi]
    obtain ⟨d, ed, dv⟩ := hx.get ev
    have ea : d = enc xs[i] := by
      rw [List.getElem?_map, List.getElem?_eq_getElem hi'] at ed
      exact (Option.some.inj ed).symm
    subst ea
    have tk : xs.take (i + 1) = xs.take i ++ [xs[i]] := by rw [List.take_succ, List.getElem?_eq_getElem hi']; rfl
    refine ht xs[i] (List.getElem_mem hi') _ H' s1 (dv.mono s1) _ fun H2 s2 => ?_
    cases hp : p xs[i] with
    | false =>
      refine iteF (hG _ _ ⟨s1.trans s2, ?_⟩)
      rw [tk, List.filter_append, show List.filter p [xs[i]] = [] by simp [hp], List.append_nil]
      exact D.mono s2
    | true =>
      refine iteT (hf xs[i] (List.getElem_mem hi') hp _ H2 (s1.trans s2) (dv.mono (s1.trans s2)) _ fun y H3 s3 dy => hG _ _ ⟨(s1.trans s2).trans s3, ?_⟩)
      rw [tk, List.filter_append, show List.filter p [xs[i]] = [xs[i]] by simp [hp], List.map_append]
      exact (D.mono (s2.trans s3)).append (.cons dy .nil)
  · rw [hlv, List.take_length] at r
    exact hd ys H' r.1 r.2
theorem comp_map {α : Type} {K : PySem.W.Frag} {J : It} {H : Hp} {vs : List V} {xs : List α} {enc : α → Dt} {te : TE} {σ : St} {fin : List V → Hp → Prop} (hJ : ItOver J H vs) (hx : Dens K H vs (xs.map enc)) (hn : xs.length ≤ sizeLine) (f : α → Dt)
    (hf : ∀ a ∈ xs, ∀ v H', Same H H' → Den K H' v (enc a) → ∀ G : VK, (∀ y H'', Same H' H'' → Den K H'' y (f a) → G y H'') → te (some v :: σ) H' G)
    (hd : ∀ ys H', Same H H' → Dens K H' ys (xs.map f) → fin ys H') : ∃ W : Nat → Nat → List V → Hp → Prop, (∃ m, W 0 m [] H) ∧ CompW J tYes te σ fin W :=
  comp_den hJ hx hn (fun _ => true) f (fun a _ v H' _ _ G hG => hG H' (Same.refl _)) (fun a ha _ => hf a ha) fun ys H' s D => hd ys H' s (by rw [List.filter_eq_self.mpr (fun _ _ => rfl)] at D; exact D)
end L2
set_option Elab.async false
set_option linter.all false
set_option maxRecDepth 100000
namespace L2
open PySem PySem.Spec PyProof.Rows
section
variable {X : Cx} {K : PySem.W.Frag}
theorem k_eqD (hu : X.A.units + 60 < cLine) (hK : X.K = K := by rfl) : OpR X (compareOp .Eq) (rEqD K false) := by subst hK; exact op_eqD hu
theorem k_neD (hu : X.A.units + 60 < cLine) (hK : X.K = K := by rfl) : OpR X (compareOp .NotEq) (rEqD K true) := by subst hK; exact op_neD hu
theorem k_inD (hu : X.A.units + 61 < cLine) (hK : X.K = K := by rfl) : OpR X (compareOp .In) (rInD K false) := by subst hK; exact op_inD hu
theorem k_notInD (hu : X.A.units + 61 < cLine) (hK : X.K = K := by rfl) : OpR X (compareOp .NotIn) (rInD K true) := by subst hK; exact op_notInD hu
theorem k_ix (hK : X.K = K := by rfl) : IxR X (rIx K) := by subst hK; exact ix_seq
def rLenG (K : PySem.W.Frag) : List V → Hp → VK → Prop := fun xs H Q => (∃ p ys, xs = [.ref p] ∧ (SqL K H p ys ∨ SqT K H p ys) ∧ Q (.int ys.length) H) ∨ (∃ z, xs = [.str z] ∧ z.length ≤ sizeLine ∧ Q (.int z.length) H)
theorem k_len (hK : X.K = K := by rfl) : CallR X (.builtin "len") (rLenG K) := by subst hK; exact call_len_seq.or call_len_str
def rListOf (K : PySem.W.Frag) : List V → Hp → VK → Prop := fun xs H Q => ∃ p ys, xs = [.ref p] ∧ (SqL K H p ys ∨ SqT K H p ys) ∧ ∀ l, H l = none → Q (.ref l) (upd H l (.lst ys))
theorem k_list (hK : X.K = K := by rfl) : CallR X (.type "list") (rListOf K) := by subst hK; exact call_list_of
def rAll (K : PySem.W.Frag) : List V → Hp → VK → Prop := fun xs H Q => ∃ (p : Addr) (bs : List Bool), xs = [.ref p] ∧ SqL K H p (bs.map V.bl) ∧ Q (.bl (bs.all id)) H
theorem k_all (hc : X.calm = true) (hK : X.K = K := by rfl) : CallR X (.builtin "all") (rAll K) := by subst hK; exact call_all hc
theorem k_join (hK : X.K = K := by rfl) : MtR X "str.join" (rJoin K) := by subst hK; exact mt_join
end
section
variable {X : Cx} {K : PySem.W.Frag} {tg l e o : Expr} {es : List Expr} {te ta to : TE} {t : TA} {pos apos cpos : Pos} {f name : Str} {T id : String} {rm : V → List V → Hp → VK → Prop}
theorem kri_list (hl : RE X l te) (hK : X.K = K := by rfl) : RI X tg l (iList K te) := by subst hK; exact ri_list hl
theorem kr_fld (he : RE X e ta) (hK : X.K = K := by rfl) (hb : attributeBase e f X.env (eval e X.env) = eval e X.env := by rfl) : RE X (.Attribute e f pos) (tFld K ta f) := by subst hK; exact r_fld he hb
theorem kr_bm (pa : PlainAttrs T) (slot : Slot T name id) (hty : typeOf (.builtin id) = pure (.type "method_descriptor")) (hm : MtR X id rm) (ho : RE X o to) (ha : RA X (e :: es) t) (hK : X.K = K := by rfl) (h1 : (e :: es).all notStar = true := by rfl)
    (hbase : attributeBase o name X.env (eval o X.env) = eval o X.env := by rfl) (hlen : decide ((e :: es).length < 30) = true := by rfl) (hline : (apos.endLine == cpos.line) = true := by rfl) : RE X (.Call (.Attribute o name apos) (e :: es) [] cpos) (tBM K T rm to t) := by
  subst hK; exact r_bm pa slot hty hm ho ha h1 hbase hlen hline
theorem kr_bm0 (pa : PlainAttrs T) (slot : Slot T name id) (hty : typeOf (.builtin id) = pure (.type "method_descriptor")) (hm : MtR X id rm) (ho : RE X o to) (hK : X.K = K := by rfl)
    (hbase : attributeBase o name X.env (eval o X.env) = eval o X.env := by rfl) (hline : (apos.endLine == cpos.line) = true := by rfl) : RE X (.Call (.Attribute o name apos) [] [] cpos) (tBM0 K T rm to) := by
  subst hK; exact r_bm0 pa slot hty hm ho hbase hline
end
theorem bt_len : bootBuiltins "len" = some (.builtin "len") := by decide +kernel
theorem bt_all : bootBuiltins "all" = some (.builtin "all") := by decide +kernel
theorem bt_isinstance : bootBuiltins "isinstance" = some (.builtin "isinstance") := by decide +kernel
theorem bt_sorted : bootBuiltins "sorted" = some (.builtin "sorted") := by decide +kernel
theorem bt_min : bootBuiltins "min" = some (.builtin "min") := by decide +kernel
theorem bt_max : bootBuiltins "max" = some (.builtin "max") := by decide +kernel
theorem bt_int : bootBuiltins "int" = some (.type "int") := by decide +kernel
theorem bt_str : bootBuiltins "str" = some (.type "str") := by decide +kernel
theorem bt_list : bootBuiltins "list" = some (.type "list") := by decide +kernel
theorem bt_tuple : bootBuiltins "tuple" = some (.type "tuple") := by decide +kernel
theorem bt_bool : bootBuiltins "bool" = some (.type "bool") := by decide +kernel
end L2
set_option Elab.async false
set_option linter.all false
set_option maxRecDepth 100000
namespace L2
open PySem PySem.Spec PyProof.Rows
theorem seq_mid {t u : TS} {D : Ends} {σ : L2.St} {H : Hp} (Mid : L2.St → Hp → Prop) (h : ∀ R : L2.St → Hp → Prop, (∀ σ' H', Mid σ' H' → R σ' H') → t { D with nx := R } σ H) (k : ∀ σ' H', Mid σ' H' → u D σ' H') : tSeq t u D σ H := h (u D) k
theorem tyes {A Bq : Hp → Prop} {σ : L2.St} {H : Hp} (h : A H) : tYes σ H (fun b H2 => if b = true then A H2 else Bq H2) := by
  show if true = true then A H else Bq H
  rw [if_pos rfl]; exact h
theorem sz {n : Nat} (h : Nat.ble n 10000 = true) : n ≤ sizeLine := small (Nat.le_of_ble_eq_true h)
theorem dec_v {i j : Int} : decide (V.int i = V.int j) = decide (i = j) := by simp
theorem atI_zero {α : Type} {x : α} {xs : List α} : atI (x :: xs) 0 = some x := atI_nat (j := 0) rfl
theorem hd_of {A : Around} {k : Nat} {env : Env} (hr : Room k (A.deeper env)) : A.handled = none := hr.hd
theorem ite_b {b : Bool} {A Bq : Prop} (h1 : b = true → A) (h2 : b = false → Bq) : if b = true then A else Bq := by
  cases b with
  | true => exact iteT (h1 rfl)
  | false => exact iteF (h2 rfl)
theorem chain_lt {l n m : Int} {te : TE} {σ : L2.St} {H : Hp} {G : Bool → Hp → Prop} (he : ∀ Q' : VK, Q' (.int m) H → te σ H Q') (hg : G (decide (l ≤ n ∧ n < m)) H) :
    if decide (l ≤ n) = true then te σ H (fun w' H4 => rI0 (fun i j => .bl (decide (i < j))) (.int n) w' H4 fun x H' => ∃ k, x = .bl k ∧ G k H') else ∃ k, V.bl false = .bl k ∧ G k H := by
  refine ite2 (fun h1 => he _ ⟨_, _, rfl, rfl, _, rfl, ?_⟩) (fun h1 => ⟨_, rfl, ?_⟩)
  · have h1' := of_decide_eq_true h1
    have e : decide (l ≤ n ∧ n < m) = decide (n < m) := by simp [h1']
    rw [← e]; exact hg
  · have e : decide (l ≤ n ∧ n < m) = false := decide_eq_false fun h => h1 (decide_eq_true h.1)
    rw [← e]; exact hg
theorem chain_ltV {l n m : Int} {te : TE} {σ : L2.St} {H : Hp} {G : VK} (he : ∀ Q' : VK, Q' (.int m) H → te σ H Q') (hg : G (.bl (decide (l ≤ n ∧ n < m))) H) :
    if decide (l ≤ n) = true then te σ H (fun w' H4 => rI0 (fun i j => .bl (decide (i < j))) (.int n) w' H4 G) else G (.bl false) H := by
  refine ite2 (fun h1 => he _ ⟨_, _, rfl, rfl, ?_⟩) (fun h1 => ?_)
  · have h1' := of_decide_eq_true h1
    have e : decide (l ≤ n ∧ n < m) = decide (n < m) := by simp [h1']
    show G (.bl (decide (n < m))) H
    rw [← e]; exact hg
  · have e : decide (l ≤ n ∧ n < m) = false := decide_eq_false fun h => h1 (decide_eq_true h.1)
    rw [← e]; exact hg
abbrev Cell := Int × Int
def cellD (x : Cell) : Dt := .tup [.int x.1, .int x.2]
theorem eqD_cell (a b : Cell) : eqD (cellD a) (cellD b) = decide (a = b) := by
  have e1 : eqD (.int a.1) (.int b.1) = decide (a.1 = b.1) := by rw [eqD_flat rfl rfl]; exact (Bool.beq_eq_decide_eq _ _)
  have e2 : eqD (.int a.2) (.int b.2) = decide (a.2 = b.2) := by rw [eqD_flat rfl rfl]; exact (Bool.beq_eq_decide_eq _ _)
  show (eqD (.int a.1) (.int b.1) && (eqD (.int a.2) (.int b.2) && true)) = _
  rw [e1, e2, Bool.and_true]
  by_cases h1 : a.1 = b.1 <;> by_cases h2 : a.2 = b.2 <;> simp [h1, h2, Prod.ext_iff]
theorem dep_cell (a : Cell) : depD (cellD a) ≤ 50 := Nat.le_of_ble_eq_true rfl
theorem any_cell (x : Cell) : ∀ cs : List Cell, ((cs.map cellD).any fun e => eqD e (cellD x)) = decide (x ∈ cs)
  | [] => by simp
  | c :: cs => by
    rw [List.map_cons, List.any_cons, eqD_cell, any_cell x cs]
    by_cases h : c = x <;> by_cases h2 : x ∈ cs <;> simp [h, h2, eq_comm]
    intro e; exact absurd e.symm h
def Ls (K : PySem.W.Frag) (H : Hp) (p : Addr) (ds : List Dt) : Prop := ∃ xs, H p = some (.lst xs) ∧ Dens K H xs ds
theorem Ls.den {K : PySem.W.Frag} {H : Hp} {p : Addr} {ds : List Dt} (h : Ls K H p ds) : Den K H (.ref p) (.lst ds) := let ⟨_, e, D⟩ := h; .lst (SqL.of e) D
theorem Ls.mono {K : PySem.W.Frag} {H H' : Hp} {p : Addr} {ds : List Dt} (h : Ls K H p ds) (s : Same H H') : Ls K H' p ds := let ⟨xs, e, D⟩ := h; ⟨xs, s _ _ e, D.mono s⟩
theorem Ls.new {K : PySem.W.Frag} {H : Hp} {p : Addr} {xs : List V} {ds : List Dt} (hp : H p = none) (D : Dens K H xs ds) : Ls K (upd H p (.lst xs)) p ds := ⟨xs, upd_same, D.mono (Same.put hp)⟩
structure Fr (K : PySem.W.Frag) (H H' : Hp) (p : Addr) (ds : List Dt) : Prop where
  same : Same H H'
  new : H p = none
  ls : Ls K H' p ds
theorem cell_ref {K : PySem.W.Frag} {H : Hp} {v : V} {x : Cell} (h : Den K H v (cellD x)) : ∃ a, v = .ref a ∧ SqT K H a [.int x.1, .int x.2] ∧ H a = some (.tup [.int x.1, .int x.2]) := by
  cases h with
  | tup ht hs =>
    cases hs with
    | cons h1 hs =>
      cases hs with
      | cons h2 hs =>
        cases hs; cases h1; cases h2
        exact ⟨_, rfl, SqT.of ht, ht⟩
theorem den_cell {K : PySem.W.Frag} {H : Hp} {p : Addr} {a b : Int} : Den K (upd H p (.tup [.int a, .int b])) (.ref p) (cellD (a, b)) := .tup upd_same (.cons (.int _) (.cons (.int _) .nil))
section
variable {K : PySem.W.Frag} {H : Hp} {v : V} {x : Cell} {p : Addr} {cs : List Cell} {Q : VK}
theorem rd_fst (d : Den K H v (cellD x)) (q : Q (.int x.1) H) : rIx K v (.int 0) H Q := by
  obtain ⟨a, rfl, h, _⟩ := cell_ref d
  exact .inr (.inl ⟨a, _, _, _, rfl, rfl, h, atI_zero, q⟩)
theorem rd_snd (d : Den K H v (cellD x)) (q : Q (.int x.2) H) : rIx K v (.int 1) H Q := by
  obtain ⟨a, rfl, h, _⟩ := cell_ref d
  exact .inr (.inl ⟨a, _, _, _, rfl, rfl, h, atI_nat (j := 1) rfl, q⟩)
theorem rd_in (d : Den K H v (cellD x)) (h : Den K H (.ref p) (.lst (cs.map cellD))) (q : Q (.bl (decide (x ∈ cs))) H) : rInD K false v (.ref p) H Q := by
  refine ⟨cellD x, cs.map cellD, p, rfl, d, .inl h, fun e he => ?_, ?_⟩
  · obtain ⟨c, _, rfl⟩ := List.mem_map.mp he
    exact ⟨rfl, dep_cell c⟩
  · show Q (.bl ((cs.map cellD).any fun e => eqD e (cellD x))) H
    rw [any_cell]; exact q
theorem rd_notin (d : Den K H v (cellD x)) (h : Den K H (.ref p) (.lst (cs.map cellD))) (q : Q (.bl (!decide (x ∈ cs))) H) : rInD K true v (.ref p) H Q := by
  refine ⟨cellD x, cs.map cellD, p, rfl, d, .inl h, fun e he => ?_, ?_⟩
  · obtain ⟨c, _, rfl⟩ := List.mem_map.mp he
    exact ⟨rfl, dep_cell c⟩
  · show Q (.bl (!(cs.map cellD).any fun e => eqD e (cellD x))) H
    rw [any_cell]; exact q
theorem rd_two {σ : L2.St} {i j : Nat} {N : L2.St → Hp → Prop} (d : Den K H v (cellD x)) (q : N ((σ.set i (some (.int x.1))).set j (some (.int x.2))) H) : gTup K 2 (gCons (gName i) (gCons (gName j) gNil)) v σ H N := by
  obtain ⟨a, rfl, h, _⟩ := cell_ref d
  exact ⟨a, _, rfl, h, rfl, _, _, rfl, _, _, rfl, rfl, q⟩
theorem rd_cat {q' : Addr} {ds es : List Dt} (h : Ls K H p ds) (h2 : Ls K H q' es) (hz : ds.length + es.length ≤ 10000) (q : ∀ r H', Fr K H H' r (ds ++ es) → Q (.ref r) H') : rAddG (.ref p) (.ref q') H Q := by
  obtain ⟨xs, e, D⟩ := h
  obtain ⟨ys, e2, D2⟩ := h2
  exact ⟨xs, ys, e, e2, by rw [D.length, D2.length]; exact small hz, fun r hr => q r _ ⟨Same.put hr, hr, .new hr (D.append D2)⟩⟩
end
def inF (h w : Int) (x : Cell) : Prop := (0 ≤ x.1 ∧ x.1 < h) ∧ (0 ≤ x.2 ∧ x.2 < w)
instance (h w : Int) (x : Cell) : Decidable (inF h w x) := by unfold inF; infer_instance
def offs : List Cell := [(-1, -1), (-1, 0), (-1, 1), (0, -1), (0, 1), (1, -1), (1, 0), (1, 1)]
def lnear (h w : Int) (x : Cell) : List Cell := (offs.map fun d => (x.1 + d.1, x.2 + d.2)).filter fun y => decide (inF h w y)
def fieldL (h w : Nat) : List Cell := (List.range h).flatMap fun r : Nat => (List.range w).map fun c : Nat => ((r : Int), (c : Int))
def figN (h w : Int) (st : List Cell) (x : Cell) : Nat := ((lnear h w x).filter fun y => decide (y ∈ st)).length
def inS (sg : Str) (c : Nat) : Bool := !(Builtin.Str.occurrences sg ⟨#[c]⟩ 0 sg.length 1).isEmpty
def codeAt (zs : List Str) (x : Nat × Nat) : Nat := (zs.getD x.1 Str.empty).cps.getD x.2 0
structure Rect (zs : List Str) (w : Nat) : Prop where
  ne : 1 ≤ zs.length
  le : zs.length ≤ 6
  w1 : 1 ≤ w
  w6 : w ≤ 6
  len : ∀ z ∈ zs, z.length = w
theorem Rect.head {zs : List Str} {w : Nat} (h : Rect zs w) : ∃ z zt, zs = z :: zt ∧ z.length = w := by
  cases zs with
  | nil => exact absurd h.ne (by decide)
  | cons z zt => exact ⟨z, zt, rfl, h.len z List.mem_cons_self⟩
end L2
set_option Elab.async false
set_option linter.all false
set_option maxRecDepth 100000
namespace L2
open PySem PySem.Spec PyProof.Rows
def SameBut (p : Addr) (H H' : Hp) : Prop := ∀ b o, H b = some o → b ≠ p → H' b = some o
theorem SameBut.refl (p : Addr) (H : Hp) : SameBut p H H := fun _ _ e _ => e
theorem SameBut.trans {p : Addr} {H H1 H2 : Hp} (a : SameBut p H H1) (b : SameBut p H1 H2) : SameBut p H H2 := fun c o e n => b c o (a c o e n) n
theorem Same.but {H H' : Hp} (s : Same H H') (p : Addr) : SameBut p H H' := fun b o e _ => s b o e
theorem SameBut.put {p : Addr} {H H' : Hp} {o : HO} (s : SameBut p H H') : SameBut p H (upd H' p o) := fun b u e n => by rw [upd_ne n]; exact s b u e n
theorem SameBut.and {p q : Addr} {H H' : Hp} {o : HO} (s : SameBut p H H') (hq : H' q = none) : SameBut p H (upd H' q o) := fun b u e n => (Same.put hq) b u (s b u e n)
theorem SameBut.of {p : Addr} {H H0 H' : Hp} (s : SameBut p H0 H') (a : Same H H0) (np : H p = none) : Same H H' := fun b o e => s b o (a b o e) (ne_of_none e np)
section
variable {K : PySem.W.Frag} {p : Addr} {H H' : Hp} {l : List V}
theorem SameBut.seq {a : Addr} {xs : List V} (s : SameBut p H H') (ha : H a = some (.lst xs)) (n : a ≠ p) : SqL K H' a xs := SqL.of (s _ _ ha n)
theorem SameBut.cell {v : V} {x : Cell} (s : SameBut p H H') (hp : H p = some (.lst l)) (h : Den K H v (cellD x)) : Den K H' v (cellD x) := by
  obtain ⟨a, rfl, _, ht⟩ := cell_ref h
  exact .tup (s _ _ ht (ne_of ht hp (by intro z; cases z))) (.cons (.int _) (.cons (.int _) .nil))
theorem SameBut.cells (s : SameBut p H H') (hp : H p = some (.lst l)) : ∀ {vs : List V} {cs : List Cell}, Dens K H vs (cs.map cellD) → Dens K H' vs (cs.map cellD)
  | [], [], _ => .nil
  | v :: vs, c :: cs, .cons h t => .cons (s.cell hp h) (s.cells hp t)
theorem SameBut.ls {q : Addr} {cs : List Cell} (s : SameBut p H H') (hp : H p = some (.lst l)) (n : q ≠ p) (h : Ls K H q (cs.map cellD)) : Ls K H' q (cs.map cellD) := let ⟨xs, e, D⟩ := h; ⟨xs, s _ _ e n, s.cells hp D⟩
end
theorem disp_cons {K : PySem.W.Frag} {ta tb : TE} {tr : TA} {σ : L2.St} {H : Hp} {Q : List V → Hp → Prop} (a b : Int) (ha : ∀ Q' : VK, Q' (.int a) H → ta σ H Q') (hb : ∀ Q' : VK, Q' (.int b) H → tb σ H Q')
    (h : ∀ v H', Same H H' → Den K H' v (cellD (a, b)) → tr σ H' fun xs H2 => Q (v :: xs) H2) : tCons (tTup (tCons ta (tCons tb tNil))) tr σ H Q :=
  ha _ (hb _ ⟨sz rfl, fun p hp => h _ _ (Same.put hp) den_cell⟩)
theorem for_disp {K : PySem.W.Frag} {ta : TA} {g : TG} {tb : TS} {D : Ends} {σ : L2.St} {H : Hp}
    (h : ta σ H fun xs H1 => xs.length ≤ sizeLine ∧ ∀ p, H1 p = none → ∃ a, V.ref p = .ref a ∧ (∃ ys, SqL K (upd H1 p (.lst xs)) a ys) ∧ ∃ W : Nat → Nat → L2.St → Hp → Prop, (∃ m, W 0 m σ (upd H1 p (.lst xs))) ∧ ∀ i m σ H, W i m σ H →
      ((Itl K a).stop i H ∧ D.nx σ H) ∨ ((Itl K a).go i H ∧ ∃ N : L2.St → Hp → Prop, (∀ σ' H', N σ' H' → ∃ m', m' < m ∧ W (i + 1) m' σ' H') ∧ ∀ x H', (Itl K a).yld i H x H' → g x σ H' fun σ2 H2 => tb { D with nx := N, ct := N, bk := D.nx } σ2 H2)) :
    tFor (iList K (tLst ta)) g tb D σ H := h
theorem ltl {n : Nat} (h : n < 10000) : n < sizeLine := Nat.lt_of_lt_of_le h (by rw [sizeLine_eq]; decide)
end L2
set_option Elab.async false
set_option linter.all false
set_option maxRecDepth 100000
namespace L2
open PySem PySem.Spec PyProof.Rows
theorem at_row {zs : List Str} {r : Nat} (h : r < zs.length) : atI (zs.map V.str) (r : Int) = some (.str (zs.getD r Str.empty)) := atI_nat (by simp [List.getD_eq_getElem?_getD, h])
theorem at_sign {z : Str} {c : Nat} (h : c < z.length) : atI z.cps.toList (c : Int) = some (z.cps.getD c 0) := by
  have h' : c < z.cps.size := h
  exact atI_nat (by simp [Array.getD_eq_getD_getElem?, h'])
theorem Rect.row {zs : List Str} {w r : Nat} (h : Rect zs w) (hr : r < zs.length) : (zs.getD r Str.empty).length = w := by
  have e : zs.getD r Str.empty = zs[r] := by simp [List.getD_eq_getElem?_getD, hr]
  rw [e]; exact h.len _ (List.getElem_mem hr)
theorem rd_sign {K : PySem.W.Frag} {H : Hp} {p : Addr} {zs : List Str} {w r c : Nat} {Q : VK} (hS : SqL K H p (zs.map V.str)) (rc : Rect zs w) (hr : r < zs.length) (hc : c < w) (q : Q (.str ⟨#[codeAt zs (r, c)]⟩) H) : rIx K (.str (zs.getD r Str.empty)) (.int (c : Int)) H Q := by
  have e := rc.row hr
  exact .inr (.inr ⟨_, _, _, rfl, rfl, small (by have := rc.w6; omega), at_sign (by omega), q⟩)
theorem rd_row {K : PySem.W.Frag} {H : Hp} {p : Addr} {zs : List Str} {r : Nat} {Q : VK} (hS : SqL K H p (zs.map V.str)) (hr : r < zs.length) (q : Q (.str (zs.getD r Str.empty)) H) : rIx K (.ref p) (.int (r : Int)) H Q :=
  .inl ⟨p, _, _, _, rfl, rfl, hS, at_row hr, q⟩
theorem over_range0 {H : Hp} (n : Nat) : ItOver (Itr 0 n) H ((List.range n).map fun i : Nat => V.int (i : Int)) := by
  have h := over_range (H := H) 0 n
  have e : (((List.range n).map fun i : Nat => (0 : Int) + (i : Int)).map V.int) = (List.range n).map fun i : Nat => V.int (i : Int) := by
    rw [List.map_map]
    refine List.map_congr_left fun i _ => ?_
    simp
  rw [e] at h; exact h
theorem Dens.nats {K : PySem.W.Frag} {H : Hp} : ∀ l : List Nat, Dens K H (l.map fun i : Nat => V.int (i : Int)) (l.map fun i : Nat => Dt.int (i : Int))
  | [] => .nil
  | _ :: l => .cons (.int _) (Dens.nats l)
theorem mem_field {h w : Nat} {x : Cell} : x ∈ fieldL h w ↔ inF h w x := by
  unfold fieldL inF
  rw [List.mem_flatMap]
  constructor
  · rintro ⟨r, hr, hx⟩
    obtain ⟨c, hc, rfl⟩ := List.mem_map.mp hx
    rw [List.mem_range] at hr hc
    exact ⟨⟨by show (0 : Int) ≤ (r : Int); omega, by show (r : Int) < h; omega⟩, ⟨by show (0 : Int) ≤ (c : Int); omega, by show (c : Int) < w; omega⟩⟩
  · rintro ⟨⟨a, b⟩, ⟨c, d⟩⟩
    refine ⟨x.1.toNat, List.mem_range.mpr (by omega), List.mem_map.mpr ⟨x.2.toNat, List.mem_range.mpr (by omega), ?_⟩⟩
    exact Prod.ext (by show ((x.1.toNat : Nat) : Int) = x.1; omega) (by show ((x.2.toNat : Nat) : Int) = x.2; omega)
theorem field_succ (h w : Nat) : fieldL (h + 1) w = fieldL h w ++ (List.range w).map fun c : Nat => ((h : Int), (c : Int)) := by
  unfold fieldL
  rw [List.range_succ, List.flatMap_append]
  simp
theorem field_len (h w : Nat) : (fieldL h w).length = h * w := by
  induction h with
  | zero => simp [fieldL]
  | succ h ih => rw [field_succ, List.length_append, ih, List.length_map, List.length_range, Nat.succ_mul]
theorem lnear_len (h w : Int) (x : Cell) : (lnear h w x).length ≤ 8 := by
  unfold lnear
  exact Nat.le_trans (List.length_filter_le _ _) (by rw [List.length_map]; decide)
theorem figN_le (h w : Int) (st : List Cell) (x : Cell) : figN h w st x ≤ 8 := Nat.le_trans (List.length_filter_le _ _) (lnear_len h w x)
theorem lnear_in {h w : Int} {x y : Cell} (hy : y ∈ lnear h w x) : inF h w y := by
  unfold lnear at hy
  exact of_decide_eq_true (List.mem_filter.mp hy).2
end L2
set_option Elab.async false
set_option linter.all false
set_option maxRecDepth 100000
namespace L2
open PySem PySem.Spec PyProof.Rows
def sgnN (h w : Int) (st kn : List Cell) (x : Cell) : Nat := if x ∈ kn then 48 + figN h w st x else 35
def rowN (h w : Int) (st kn : List Cell) (r : Int) (n : Nat) : Str := ⟨((List.range n).map fun c : Nat => sgnN h w st kn (r, (c : Int))).toArray⟩
def shownL (h w : Nat) (st kn : List Cell) : List Str := (List.range h).map fun r : Nat => rowN h w st kn (r : Int) w
theorem row_succ (h w : Int) (st kn : List Cell) (r : Int) (n : Nat) : rowN h w st kn r (n + 1) = rowN h w st kn r n ++ ⟨#[sgnN h w st kn (r, (n : Int))]⟩ := by
  unfold rowN
  rw [List.range_succ, List.map_append]
  show (⟨_⟩ : Str) = ⟨_ ++ _⟩
  simp
theorem row_len (h w : Int) (st kn : List Cell) (r : Int) (n : Nat) : (rowN h w st kn r n).length = n := by
  show (((List.range n).map fun c : Nat => sgnN h w st kn (r, (c : Int))).toArray).size = n
  simp
theorem dig : ∀ n, n ≤ 8 → (Str.ofString (toString ((n : Nat) : Int)) : Str) = ⟨#[48 + n]⟩ := by
  intro n hn
  have := (by decide +kernel : ∀ k ∈ List.range 9, (Str.ofString (toString ((k : Nat) : Int)) : Str) = ⟨#[48 + k]⟩)
  exact this n (List.mem_range.mpr (by omega))
theorem dig_log (n : Nat) (h : n ≤ 8) : ((n : Nat) : Int).natAbs.log2 < 1920 := by
  have e : ((n : Nat) : Int).natAbs = n := Int.natAbs_natCast n
  rw [e]
  have := (by decide : ∀ k ∈ List.range 9, k.log2 < 1920)
  exact this n (List.mem_range.mpr (by omega))
inductive Reach (h w : Int) (st kn : List Cell) (x0 : Cell) : Cell → Prop
  | base : Reach h w st kn x0 x0
  | step {x y : Cell} : Reach h w st kn x0 x → figN h w st x = 0 → y ∈ lnear h w x → y ∉ kn → Reach h w st kn x0 y
theorem Reach.inF {h w : Int} {st kn : List Cell} {x0 y : Cell} (h0 : inF h w x0) (r : Reach h w st kn x0 y) : L2.inF h w y := by
  induction r with
  | base => exact h0
  | step _ _ hy _ _ => exact lnear_in hy
theorem Reach.new {h w : Int} {st kn : List Cell} {x0 y : Cell} (h0 : x0 ∉ kn) (r : Reach h w st kn x0 y) : y ∉ kn := by
  cases r with
  | base => exact h0
  | step _ _ _ hk => exact hk
theorem lnear_nodup (h w : Int) (x : Cell) : (lnear h w x).Nodup := by
  unfold lnear
  refine List.Nodup.sublist List.filter_sublist ?_
  unfold List.Nodup
  rw [List.pairwise_map]
  have o : offs.Pairwise (· ≠ ·) := by decide
  refine o.imp fun {a b} hab e => hab ?_
  have e1 := congrArg Prod.fst e
  have e2 := congrArg Prod.snd e
  simp only at e1 e2
  exact Prod.ext (by omega) (by omega)
theorem nodup_le {α : Type} [DecidableEq α] : ∀ {l1 l2 : List α}, l1.Nodup → (∀ x ∈ l1, x ∈ l2) → l1.length ≤ l2.length
  | [], _, _, _ => Nat.zero_le _
  | a :: l1, l2, hn, hs => by
    have ha := hs a List.mem_cons_self
    have hn' := List.nodup_cons.mp hn
    have ih := nodup_le (l1 := l1) (l2 := l2.erase a) hn'.2 fun x hx => (List.mem_erase_of_ne (fun e : x = a => hn'.1 (by rw [← e]; exact hx))).mpr (hs x (List.mem_cons_of_mem _ hx))
    rw [List.length_erase_of_mem ha] at ih
    have : 0 < l2.length := List.length_pos_of_mem ha
    rw [List.length_cons]; omega
structure OpInv (h w : Int) (st kn : List Cell) (x0 : Cell) (cs : List Cell) (at_ : Nat) : Prop where
  nd : cs.Nodup
  has : x0 ∈ cs
  rch : ∀ y ∈ cs, Reach h w st kn x0 y
  le : at_ ≤ cs.length
  cl : ∀ i y, i < at_ → cs[i]? = some y → figN h w st y = 0 → ∀ z ∈ lnear h w y, z ∈ kn ∨ z ∈ cs
theorem OpInv.done {h w : Int} {st kn : List Cell} {x0 : Cell} {cs : List Cell} (o : OpInv h w st kn x0 cs cs.length) (y : Cell) : y ∈ cs ↔ Reach h w st kn x0 y := by
  refine ⟨o.rch y, fun r => ?_⟩
  induction r with
  | base => exact o.has
  | step _ e hy hk ih =>
    obtain ⟨i, hi⟩ := List.getElem?_of_mem ih
    have hlt : i < cs.length := (List.getElem?_eq_some_iff.mp hi).1
    rcases o.cl i _ hlt hi e _ hy with z | z
    · exact absurd z hk
    · exact z
theorem OpInv.grow {h w : Int} {st kn : List Cell} {x0 x : Cell} {cs : List Cell} {n : Nat} (o : OpInv h w st kn x0 cs n) (hx : cs[n]? = some x) (e : figN h w st x = 0) :
    OpInv h w st kn x0 (cs ++ (lnear h w x).filter fun y => !decide (y ∈ kn) && !decide (y ∈ cs)) (n + 1) := by
  have hn : n < cs.length := (List.getElem?_eq_some_iff.mp hx).1
  have mem : ∀ y, y ∈ ((lnear h w x).filter fun y => !decide (y ∈ kn) && !decide (y ∈ cs)) ↔ y ∈ lnear h w x ∧ y ∉ kn ∧ y ∉ cs := fun y => by
    rw [List.mem_filter]; simp
  refine ⟨?_, List.mem_append_left _ o.has, fun y hy => ?_, by rw [List.length_append]; omega, fun i y hi hy e' z hz => ?_⟩
  · refine List.nodup_append.mpr ⟨o.nd, List.Nodup.sublist List.filter_sublist (lnear_nodup h w x), fun a ha b hb hab => ?_⟩
    rw [← hab] at hb
    exact ((mem a).mp hb).2.2 ha
  · rcases List.mem_append.mp hy with z | z
    · exact o.rch y z
    · obtain ⟨z1, z2, z3⟩ := (mem y).mp z
      exact .step (o.rch x (List.mem_of_getElem? hx)) e z1 z2
  · have hi' : i < cs.length := by omega
    rw [List.getElem?_append_left hi'] at hy
    by_cases hin : i = n
    · subst hin
      rw [hx] at hy; cases hy
      by_cases zk : z ∈ kn
      · exact .inl zk
      · by_cases zc : z ∈ cs
        · exact .inr (List.mem_append_left _ zc)
        · exact .inr (List.mem_append_right _ ((mem z).mpr ⟨hz, zk, zc⟩))
    · rcases o.cl i y (by omega) hy e' z hz with q | q
      · exact .inl q
      · exact .inr (List.mem_append_left _ q)
theorem OpInv.skip {h w : Int} {st kn : List Cell} {x0 x : Cell} {cs : List Cell} {n : Nat} (o : OpInv h w st kn x0 cs n) (hx : cs[n]? = some x) (e : figN h w st x ≠ 0) : OpInv h w st kn x0 cs (n + 1) := by
  have hn : n < cs.length := (List.getElem?_eq_some_iff.mp hx).1
  refine ⟨o.nd, o.has, o.rch, hn, fun i y hi hy e' z hz => ?_⟩
  by_cases hin : i = n
  · subst hin
    rw [hx] at hy; cases hy
    exact absurd e' e
  · exact o.cl i y (by omega) hy e' z hz
theorem OpInv.len {h w : Nat} {st kn : List Cell} {x0 : Cell} {cs : List Cell} {n : Nat} (o : OpInv h w st kn x0 cs n) (h0 : inF h w x0) (h6 : h ≤ 6) (w6 : w ≤ 6) : cs.length ≤ 36 := by
  have := nodup_le (l2 := fieldL h w) o.nd fun y hy => mem_field.mpr ((o.rch y hy).inF h0)
  rw [field_len] at this
  have : h * w ≤ 6 * 6 := Nat.mul_le_mul h6 w6
  omega
end L2
set_option Elab.async false
set_option linter.all false
set_option maxRecDepth 100000
namespace L2
open PySem PySem.Spec PyProof.Rows
theorem inS_no {sg : Str} {c : Nat} (h : c ∉ sg.cps.toList) : inS sg c = false := by
  unfold inS
  rw [PySem.W.occ_nil_of_no sg ⟨#[c]⟩ 1 fun i hi => ?_]
  · rfl
  · cases e : Builtin.Str.subAt sg ⟨#[c]⟩ i with
    | false => rfl
    | true =>
      refine absurd ?_ h
      have e' : sg.cps.extract i (i + 1) = #[c] := beq_iff_eq.mp e
      have hm : c ∈ sg.cps.extract i (i + 1) := by rw [e']; simp
      obtain ⟨k, hk, e2⟩ := Array.mem_extract_iff_getElem.mp hm
      rw [← e2]
      exact Array.getElem_mem_toList _
theorem inS_of {sg : Str} (h : sg.cps.toList.all (inS sg) = true) (c : Nat) : inS sg c = decide (c ∈ sg.cps.toList) := by
  by_cases hc : c ∈ sg.cps.toList
  · rw [decide_eq_true hc]; exact List.all_eq_true.mp h c hc
  · rw [decide_eq_false hc]; exact inS_no hc
def sgnOK (c : Nat) : Bool := decide (c = 35 ∨ (48 ≤ c ∧ c ≤ 56))
theorem inS_all (c : Nat) : inS "#012345678" c = sgnOK c := by
  rw [inS_of (by decide +kernel)]
  have e : ("#012345678" : Str).cps.toList = [35, 48, 49, 50, 51, 52, 53, 54, 55, 56] := by decide +kernel
  rw [e]
  by_cases h : c < 57
  · exact (by decide +kernel : ∀ k ∈ List.range 57, decide (k ∈ [35, 48, 49, 50, 51, 52, 53, 54, 55, 56]) = sgnOK k) c (List.mem_range.mpr h)
  · have n1 : ¬ c ∈ [35, 48, 49, 50, 51, 52, 53, 54, 55, 56] := fun z => h ((by decide : ∀ k ∈ [35, 48, 49, 50, 51, 52, 53, 54, 55, 56], k < 57) c z)
    have n2 : sgnOK c = false := by unfold sgnOK; exact decide_eq_false (by omega)
    rw [decide_eq_false n1, n2]
structure Vw (zs : List Str) (w : Nat) : Prop extends Rect zs w where
  sg : ∀ z ∈ zs, ∀ c ∈ z.cps.toList, sgnOK c = true
theorem shown_vw {h w : Nat} {st kn : List Cell} (h1 : 1 ≤ h) (h6 : h ≤ 6) (w1 : 1 ≤ w) (w6 : w ≤ 6) : Vw (shownL h w st kn) w := by
  have hl : (shownL h w st kn).length = h := by unfold shownL; rw [List.length_map, List.length_range]
  refine ⟨⟨by omega, by omega, w1, w6, fun z hz => ?_⟩, fun z hz c hc => ?_⟩
  · obtain ⟨r, _, rfl⟩ := List.mem_map.mp hz
    exact row_len _ _ _ _ _ _
  · obtain ⟨r, _, rfl⟩ := List.mem_map.mp hz
    unfold rowN at hc
    simp only [List.mem_map] at hc
    obtain ⟨k, _, rfl⟩ := hc
    unfold sgnN sgnOK
    have := figN_le h w st ((r : Int), (k : Int))
    split
    · exact decide_eq_true (.inr ⟨by omega, by omega⟩)
    · exact decide_eq_true (.inl rfl)
end L2
set_option Elab.async false
set_option linter.all false
set_option maxRecDepth 100000
namespace L2
open PySem PySem.Spec PyProof.Rows
def rowB (z : Str) (n : Int) : Bool := decide ((z.length : Int) = n) && z.cps.toList.all (inS "#012345678")
def viewB : List Str → Bool
  | [] => false
  | z :: zs => decide ((z :: zs).length ≤ 6) && decide (1 ≤ z.length ∧ z.length ≤ 6) && (z :: zs).all fun r => rowB r z.length
theorem viewB_cons {z : Str} {zs : List Str} (h1 : (z :: zs).length ≤ 6) (h2 : 1 ≤ z.length) (h3 : z.length ≤ 6) : viewB (z :: zs) = (z :: zs).all fun r => rowB r z.length := by
  show (decide ((z :: zs).length ≤ 6) && decide (1 ≤ z.length ∧ z.length ≤ 6) && _) = _
  rw [decide_eq_true h1, decide_eq_true (And.intro h2 h3)]; rfl
theorem viewB_long {z : Str} {zs : List Str} (h1 : ¬ (z :: zs).length ≤ 6) : viewB (z :: zs) = false := by
  show (decide ((z :: zs).length ≤ 6) && _ && _) = _
  rw [decide_eq_false h1]; rfl
theorem viewB_wide {z : Str} {zs : List Str} (h1 : ¬ (1 ≤ z.length ∧ z.length ≤ 6)) : viewB (z :: zs) = false := by
  show (_ && decide (1 ≤ z.length ∧ z.length ≤ 6) && _) = _
  rw [decide_eq_false h1, Bool.and_false]; rfl
theorem Vw.ok {zs : List Str} {w : Nat} (v : Vw zs w) : viewB zs = true := by
  obtain ⟨z, zt, rfl, hz⟩ := v.toRect.head
  rw [viewB_cons v.le (by have := v.w1; omega) (by have := v.w6; omega), List.all_eq_true]
  intro r hr
  unfold rowB
  rw [decide_eq_true (by rw [v.len r hr, hz]), Bool.true_and, List.all_eq_true]
  intro c hc
  rw [inS_all]; exact v.sg r hr c hc
def fView (l : Addr) (h w : Int) : List (Str × V) := putF "width" (.int w) (putF "height" (.int h) (putF "rows" (.ref l) []))
theorem f_rows (l : Addr) (h w : Int) : (fView l h w).lookup ("rows" : Str) = some (.ref l) := by
  unfold fView; rw [lookup_putF, if_neg (by decide +kernel), lookup_putF, if_neg (by decide +kernel), lookup_putF, if_pos rfl]
theorem f_height (l : Addr) (h w : Int) : (fView l h w).lookup ("height" : Str) = some (.int h) := by
  unfold fView; rw [lookup_putF, if_neg (by decide +kernel), lookup_putF, if_pos rfl]
theorem f_width (l : Addr) (h w : Int) : (fView l h w).lookup ("width" : Str) = some (.int w) := by
  unfold fView; rw [lookup_putF, if_pos rfl]
structure ViewAt (C : Addr) (H : Hp) (x : Addr) (zs : List Str) (w : Nat) : Prop where
  ob : ∃ dx l, H x = some (.ins C dx (fView l zs.length w)) ∧ H l = some (.lst (zs.map V.str))
  vw : Vw zs w
theorem ViewAt.mono {C : Addr} {H H' : Hp} {x : Addr} {zs : List Str} {w : Nat} (v : ViewAt C H x zs w) (s : Same H H') : ViewAt C H' x zs w := let ⟨dx, l, a, b⟩ := v.ob; ⟨⟨dx, l, s _ _ a, s _ _ b⟩, v.vw⟩
def closedB (zs : List Str) (w : Nat) (x : Cell) : Bool := decide (inF zs.length w x) && decide (codeAt zs (x.1.toNat, x.2.toNat) = 35)
def nearRow (w : Nat) (x : Cell) (r : Int) : List Cell := ((List.range ((min (x.2 + 2) w) - (max (x.2 - 1) 0)).toNat).map fun k : Nat => (r, max (x.2 - 1) 0 + (k : Int))).filter fun y => !decide (y = x)
def pnearN (w : Nat) (x : Cell) (lo : Int) (n : Nat) : List Cell := (List.range n).flatMap fun k : Nat => nearRow w x (lo + (k : Int))
def pnearL (h w : Nat) (x : Cell) : List Cell := pnearN w x (max (x.1 - 1) 0) ((min (x.1 + 2) h) - (max (x.1 - 1) 0)).toNat
theorem pnear_all : ∀ h ∈ List.range 7, ∀ w ∈ List.range 7, ∀ r ∈ List.range h, ∀ c ∈ List.range w, pnearL h w ((r : Int), (c : Int)) = lnear h w ((r : Int), (c : Int)) := by decide +kernel
theorem pnear_eq {h w : Nat} {x : Cell} (h6 : h ≤ 6) (w6 : w ≤ 6) (hx : inF h w x) : pnearL h w x = lnear h w x := by
  obtain ⟨⟨a, b⟩, ⟨c, d⟩⟩ := hx
  have := pnear_all h (List.mem_range.mpr (by omega)) w (List.mem_range.mpr (by omega)) x.1.toNat (List.mem_range.mpr (by omega)) x.2.toNat (List.mem_range.mpr (by omega))
  have e : (((x.1.toNat : Nat) : Int), ((x.2.toNat : Nat) : Int)) = x := Prod.ext (by show ((x.1.toNat : Nat) : Int) = x.1; omega) (by show ((x.2.toNat : Nat) : Int) = x.2; omega)
  rw [e] at this; exact this
end L2
set_option Elab.async false
set_option linter.all false
set_option maxRecDepth 100000
namespace L2
open PySem PySem.Spec PyProof.Rows PySem.W
section
variable {prog : Program} {w : World} {A : Around} {E : Value → Shared → Prop} {s : Shared}
abbrev Keeps (h h' : Heap) : Prop := ∀ b o, h.get? b = some o → h'.get? b = some o
end
def cellLt (a b : Cell) : Prop := a.1 < b.1 ∨ (a.1 = b.1 ∧ a.2 < b.2)
instance (a b : Cell) : Decidable (cellLt a b) := by unfold cellLt; infer_instance
section
variable {X : Cx}
theorem cell_obj {pins : List (Addr × Obj)} {σ : L2.St} {H : Hp} {s : Shared} {v : V} {u : Value} {c : Cell} (I : Inv X pins σ H s) (d : Den X.K H v (cellD c)) (r : RelV v u) : ∃ (a : Addr) (o : Obj) (t t' : Tok) (n : Nat), u = .ref a ∧ s.heap.get? a = some o ∧ o.cls = .type "tuple" ∧ o.data = .seq #[.int c.1 t, .int c.2 t'] n := by
  obtain ⟨a, rfl, ht, _⟩ := cell_ref d
  cases r
  obtain ⟨its, rv, ⟨o, e, hc, n, hd⟩, _⟩ := I.tuple ht
  obtain ⟨u1, u2, rfl, ⟨t, rfl⟩, ⟨t', rfl⟩⟩ := vals2 rv
  exact ⟨a, o, t, t', n, rfl, e, hc, hd⟩
end
end L2
set_option Elab.async false
set_option linter.all false
set_option maxRecDepth 100000
namespace L2
open PySem PySem.Spec PyProof.Rows
section
variable {X : Cx} {K : PySem.W.Frag}
def rIsiS (K : PySem.W.Frag) : List V → Hp → VK → Prop := fun xs H Q => ∃ x c cv, xs = [x, c] ∧ clsV c = some cv ∧ ∃ (a : Addr) (ys : List V) (b : Bool), x = .ref a ∧
  ((SqT K H a ys ∧ PySem.W.kitOne K (.type "tuple") cv = some b) ∨ (SqL K H a ys ∧ PySem.W.kitOne K (.type "list") cv = some b)) ∧ Q (.bl b) H
theorem call_isiS : CallR X (.builtin "isinstance") (rIsiS X.K) := by
  intro pins s σ H xs us Q I r h
  obtain ⟨x, c, cv, rfl, hc, a, ys, b, rfl, h, q⟩ := h
  obtain ⟨u, u', rfl, ru, rc⟩ := vals2 r
  have e := clsV_is hc rc
  subst e
  cases ru
  rcases h with ⟨ht, hk⟩ | ⟨ht, hk⟩
  · obtain ⟨its, _, ⟨o, e1, e2, _⟩, _⟩ := I.tuple ht
    exact PySem.W.kia_one PySem.W.kitx_tuple I.kIn ⟨o, e1, e2⟩ hk (by intro z; cases z) fun tk => ⟨.bl b, H, I.tok tk, rfl, q⟩
  · obtain ⟨its, _, ⟨o, n, e1, e2, _⟩, _⟩ := I.list ht
    exact PySem.W.kia_one PySem.W.kitx_list I.kIn ⟨o, e1, e2⟩ hk (by intro z; cases z) fun tk => ⟨.bl b, H, I.tok tk, rfl, q⟩
theorem k_isiG (hK : X.K = K := by rfl) : CallR X (.builtin "isinstance") (fun xs H Q => rIsi K xs H Q ∨ rIsiS K xs H Q) := by subst hK; exact call_isi.or call_isiS
end
end L2
set_option Elab.async false
set_option linter.all false
set_option maxRecDepth 100000
namespace L2
open PySem PySem.Spec PyProof.Rows PySem.W
structure Ordr {α : Type} (lt : α → α → Bool) : Prop where
  asym : ∀ a b, lt a b = true → lt b a = false
  tr : ∀ a b c, lt b a = false → lt c b = false → lt c a = false
  anti : ∀ a b, lt a b = false → lt b a = false → a = b
theorem Ordr.refl {α : Type} {lt : α → α → Bool} (o : Ordr lt) (a : α) : lt a a = false := by
  cases h : lt a a
  · rfl
  · rw [← h]; exact o.asym a a h ▸ rfl
structure Good (N : Nat) (p : Array Nat) : Prop where
  perm : p.toList.Perm (List.range N)
theorem Good.size {N : Nat} {p : Array Nat} (g : Good N p) : p.size = N := by
  have := g.perm.length_eq
  simpa using this
theorem Good.lt {N : Nat} {p : Array Nat} (g : Good N p) (h : 1 ≤ N) (k : Nat) : p.getD k 0 < N := by
  by_cases hk : k < p.size
  · have : p.getD k 0 ∈ p.toList := by
      rw [Array.getD_eq_getD_getElem?, Array.getElem?_eq_getElem hk]
      exact Array.getElem_mem_toList hk
    exact List.mem_range.mp (g.perm.mem_iff.mp this)
  · rw [Array.getD_eq_getD_getElem?, Array.getElem?_eq_none (by omega)]
    exact h
theorem swap_perm {p : Array Nat} {i j : Nat} : (p.swapIfInBounds i j).toList.Perm p.toList := by
  unfold Array.swapIfInBounds
  split
  · split
    · exact (Array.swap_perm _ _).toList
    · exact .refl _
  · exact .refl _
theorem swap_get {p : Array Nat} {i j k : Nat} (hi : i < p.size) (hj : j < p.size) : (p.swapIfInBounds i j).getD k 0 = if k = i then p.getD j 0 else if k = j then p.getD i 0 else p.getD k 0 := by
  unfold Array.swapIfInBounds
  rw [dif_pos hi, dif_pos hj]
  simp only [Array.getD_eq_getD_getElem?, Array.getElem?_swap]
  by_cases h1 : k = i
  · subst h1
    by_cases h2 : k = j
    · subst h2; simp [hi]
    · simp [hi, hj, h2, Ne.symm h2]
  · by_cases h2 : k = j
    · subst h2; simp [hi, hj, h1]
    · simp [h1, h2, Ne.symm h1, Ne.symm h2]
theorem fold_perm {g h : Nat → Nat} : ∀ (ks : List Nat) (p : Array Nat), (ks.foldl (fun a k => a.swapIfInBounds (g k) (h k)) p).toList.Perm p.toList
  | [], p => .refl _
  | k :: ks, p => by
    rw [List.foldl_cons]
    exact (fold_perm ks _).trans swap_perm
theorem rev_good {N : Nat} {p : Array Nat} {i j : Nat} (g : Good N p) : Good N (kas_rev p i j) := ⟨(fold_perm _ _).trans g.perm⟩
theorem bub_good {N : Nat} {p : Array Nat} {i j : Nat} (g : Good N p) : Good N (bubble p i j) := ⟨(fold_perm _ _).trans g.perm⟩
theorem mir_in {i j d k : Nat} (hd : 2 * (d + 1) ≤ j - i) (h1 : k ≠ i + d) (h2 : k ≠ j - 1 - d) : (i ≤ k ∧ k < i + (d + 1) ↔ i ≤ k ∧ k < i + d) ∧ (j - (d + 1) ≤ k ∧ k < j ↔ j - d ≤ k ∧ k < j) := ⟨by omega, by omega⟩
theorem mir_get {p : Array Nat} {i j : Nat} (hj : j ≤ p.size) : ∀ d, 2 * d ≤ j - i → ∀ k, (mirror p i j d).getD k 0 = if i ≤ k ∧ k < i + d then p.getD (i + j - 1 - k) 0 else if j - d ≤ k ∧ k < j then p.getD (i + j - 1 - k) 0 else p.getD k 0 := by
  intro d
  induction d with
  | zero =>
    intro _ k
    rw [if_neg (fun z => Nat.lt_irrefl _ (Nat.lt_of_le_of_lt z.1 z.2)), if_neg (fun z => Nat.lt_irrefl _ (Nat.lt_of_le_of_lt z.1 z.2))]; rfl
  | succ d ih =>
    intro hd k
    have e : mirror p i j (d + 1) = (mirror p i j d).swapIfInBounds (i + d) (j - 1 - d) := by
      unfold mirror; rw [List.range_succ, List.foldl_append]; rfl
    have sz : (mirror p i j d).size = p.size := mirror_size _ _ _ _
    have b1 : i + d < j := by clear ih e sz hj; omega
    have b2 : j - 1 - d < j := by clear ih e sz hj; omega
    rw [e, swap_get (by rw [sz]; exact Nat.lt_of_lt_of_le b1 hj) (by rw [sz]; exact Nat.lt_of_lt_of_le b2 hj)]
    have ih' := ih (Nat.le_trans (Nat.mul_le_mul_left 2 (Nat.le_succ d)) hd)
    clear ih e sz hj
    by_cases h1 : k = i + d
    · subst h1
      rw [if_pos rfl, ih', if_neg (by omega), if_neg (by omega), if_pos (by omega)]
      congr 1; omega
    · rw [if_neg h1]
      by_cases h2 : k = j - 1 - d
      · subst h2
        rw [if_pos rfl, ih', if_neg (by omega), if_neg (by omega), if_neg (by omega), if_pos (by omega)]
        congr 1; omega
      · obtain ⟨c1, c2⟩ := mir_in hd h1 h2
        rw [if_neg h2, ih']
        simp only [c1, c2]
theorem rev_get {p : Array Nat} {i j : Nat} (hj : j ≤ p.size) (k : Nat) : (kas_rev p i j).getD k 0 = if i ≤ k ∧ k < j then p.getD (i + j - 1 - k) 0 else p.getD k 0 := by
  unfold kas_rev
  rw [mir_get hj _ (by omega)]
  clear hj
  by_cases h : i ≤ k ∧ k < j
  · rw [if_pos h]
    by_cases h1 : i ≤ k ∧ k < i + (j - i) / 2
    · rw [if_pos h1]
    · rw [if_neg h1]
      by_cases h2 : j - (j - i) / 2 ≤ k ∧ k < j
      · rw [if_pos h2]
      · rw [if_neg h2]
        congr 1
        omega
  · rw [if_neg h, if_neg (by omega), if_neg (by omega)]
theorem bub_get {p : Array Nat} {r : Nat} (hr : r < p.size) : ∀ d, d ≤ r → ∀ k, (bubble p r d).getD k 0 = if k = r - d then p.getD r 0 else if r - d < k ∧ k ≤ r then p.getD (k - 1) 0 else p.getD k 0 := by
  intro d
  induction d with
  | zero =>
    intro _ k
    show p.getD k 0 = _
    by_cases h : k = r
    · rw [if_pos (by omega), h]
    · rw [if_neg (by omega), if_neg (by omega)]
  | succ d ih =>
    intro hd k
    have e : bubble p r (d + 1) = (bubble p r d).swapIfInBounds (r - d) (r - d - 1) := by
      unfold bubble; rw [List.range_succ, List.foldl_append]; rfl
    have sz : (bubble p r d).size = p.size := bubble_size _ _ _
    rw [e, swap_get (by omega) (by omega)]
    have ih' := ih (by omega)
    by_cases h1 : k = r - d
    · rw [if_pos h1, ih', if_neg (by omega), if_neg (by omega), if_neg (by omega), if_pos (by omega)]
      congr 1; omega
    · rw [if_neg h1]
      by_cases h2 : k = r - d - 1
      · rw [if_pos h2, ih', if_pos rfl, if_pos (by omega)]
      · rw [if_neg h2, ih', if_neg h1]
        by_cases h3 : r - d < k ∧ k ≤ r
        · rw [if_pos h3, if_neg (by omega), if_pos (by omega)]
        · rw [if_neg h3, if_neg (by omega), if_neg (by omega)]
section
variable {α : Type} {lt : α → α → Bool} {f : Nat → α} {N : Nat} {s : Shared} {cmp : Nat → Nat → (Bool → Shared → Prop) → Shared → Prop}
def Ky (f : Nat → α) (p : Array Nat) (i : Nat) : α := f (p.getD i 0)
def UpTo (lt : α → α → Bool) (f : Nat → α) (p : Array Nat) (n : Nat) : Prop := ∀ i, i + 1 < n → lt (Ky f p (i + 1)) (Ky f p i) = false
def DnTo (lt : α → α → Bool) (f : Nat → α) (p : Array Nat) (n : Nat) : Prop := ∀ i, i + 1 < n → lt (Ky f p i) (Ky f p (i + 1)) = false
theorem UpTo.le (o : Ordr lt) {p : Array Nat} {n : Nat} (u : UpTo lt f p n) : ∀ d i, i + d < n → lt (Ky f p (i + d)) (Ky f p i) = false := by
  intro d
  induction d with
  | zero => intro i _; exact o.refl _
  | succ d ih => intro i h; exact o.tr _ _ _ (ih i (by omega)) (u (i + d) (by omega))
def Asks (lt : α → α → Bool) (f : Nat → α) (N : Nat) (s : Shared) (cmp : Nat → Nat → (Bool → Shared → Prop) → Shared → Prop) : Prop := ∀ i j (C : Bool → Shared → Prop), i < N → j < N → C (lt (f i) (f j)) s → cmp i j C s
theorem wp_ask {β : Type} {Q : β → Shared → Prop} {k : Bool → KasT β} {i j : Nat} (hc : Asks lt f N s cmp) (hi : i < N) (hj : j < N) (h : (k (lt (f i) (f j))).kasWp cmp Q s) : (KasT.ask i j k).kasWp cmp Q s :=
  hc i j _ hi hj h
theorem wp_asc (hc : Asks lt f N s cmp) {p : Array Nat} (g : Good N p) (hN : 1 ≤ N) {Q : Nat → Shared → Prop} : ∀ (fu n : Nat), n + fu ≤ N → 1 ≤ n → UpTo lt f p n →
    (∀ m, n ≤ m → m ≤ n + fu → UpTo lt f p m → (m < n + fu → lt (Ky f p m) (Ky f p (m - 1)) = true) → Q m s) → (kas_asc p fu n).kasWp cmp Q s := by
  intro fu
  induction fu with
  | zero =>
    intro n h h1 u q
    rw [kas_asc.eq_1]
    exact q n (Nat.le_refl _) (Nat.le_refl _) u (fun z => by omega)
  | succ fu ih =>
    intro n h h1 u q
    rw [kas_asc.eq_2]
    refine wp_ask hc (g.lt hN _) (g.lt hN _) ?_
    by_cases hb : lt (Ky f p n) (Ky f p (n - 1)) = true
    · have hb' : lt (f (p.getD n 0)) (f (p.getD (n - 1) 0)) = true := hb
      rw [hb', if_pos rfl]
      exact q n (Nat.le_refl _) (by omega) u (fun _ => hb)
    · have hb' : lt (f (p.getD n 0)) (f (p.getD (n - 1) 0)) = false := by
        cases h' : lt (f (p.getD n 0)) (f (p.getD (n - 1) 0))
        · rfl
        · exact absurd h' hb
      rw [hb', if_neg Bool.false_ne_true]
      refine ih (n + 1) (by omega) (by omega) (fun i hi => ?_) (fun m h2 h3 u' q' => q m (by omega) (by omega) u' fun z => q' (by omega))
      by_cases h4 : i + 1 < n
      · exact u i h4
      · have : i = n - 1 := by omega
        subst this
        have e : n - 1 + 1 = n := by omega
        rw [e]; exact hb'
theorem bool_no {b : Bool} (h : ¬ b = true) : b = false := by cases b <;> simp_all
def Eqs (f : Nat → α) (p : Array Nat) (a b : Nat) : Prop := ∀ i, a ≤ i → i < b → Ky f p i = Ky f p (b - 1)
theorem rev_eqs {p : Array Nat} {a b : Nat} (hb : b ≤ p.size) (e : Eqs f p a b) (i : Nat) : Ky f (kas_rev p a b) i = Ky f p i := by
  unfold Ky
  rw [rev_get hb]
  by_cases h : a ≤ i ∧ i < b
  · rw [if_pos h]
    exact (e (a + b - 1 - i) (by omega) (by omega)).trans (e i h.1 h.2).symm
  · rw [if_neg h]
theorem wp_desc (o : Ordr lt) (hc : Asks lt f N s cmp) (hN : 1 ≤ N) {Q : Array Nat × Nat × Nat → Shared → Prop} : ∀ (fu : Nat) (p : Array Nat) (n q : Nat), Good N p → n + fu ≤ N → q + 1 ≤ n → DnTo lt f p n → Eqs f p (n - (q + 1)) n →
    (∀ p' n' q', Good N p' → n ≤ n' → n' ≤ N → q' + 1 ≤ n' → DnTo lt f p' n' → Eqs f p' (n' - (q' + 1)) n' → Q (p', n', q') s) → (kas_desc fu p n q).kasWp cmp Q s := by
  intro fu
  induction fu with
  | zero =>
    intro p n q g h h1 d e hq
    rw [kas_desc.eq_1]
    exact hq p n q g (Nat.le_refl _) (by omega) h1 d e
  | succ fu ih =>
    intro p n q g h h1 d e hq
    rw [kas_desc.eq_2]
    have sz := g.size
    refine wp_ask hc (g.lt hN _) (g.lt hN _) ?_
    by_cases hb : lt (f (p.getD n 0)) (f (p.getD (n - 1) 0)) = true
    · rw [hb, if_pos rfl]
      have dn : ∀ p' : Array Nat, (∀ i, Ky f p' i = Ky f p i) → DnTo lt f p' (n + 1) := fun p' ep i hi => by
        rw [ep, ep]
        by_cases h4 : i + 1 < n
        · exact d i h4
        · have : i = n - 1 := by omega
          subst this
          have e1 : n - 1 + 1 = n := by omega
          rw [e1]; exact o.asym _ _ hb
      have eqs : ∀ p' : Array Nat, Eqs f p' (n + 1 - (0 + 1)) (n + 1) := fun p' i h1 h2 => by
        have : i = n + 1 - 1 := by omega
        rw [this]
      by_cases hq0 : q > 0
      · rw [if_pos hq0]
        exact ih _ _ _ (rev_good g) (by omega) (by omega) (dn _ (rev_eqs (by omega) e)) (eqs _) fun p' n' q' a1 a2 => hq p' n' q' a1 (by omega)
      · rw [if_neg hq0]
        exact ih _ _ _ g (by omega) (by omega) (dn _ fun _ => rfl) (eqs _) fun p' n' q' a1 a2 => hq p' n' q' a1 (by omega)
    · have hb0 := bool_no hb
      rw [hb0, if_neg Bool.false_ne_true]
      refine wp_ask hc (g.lt hN _) (g.lt hN _) ?_
      by_cases hd : lt (f (p.getD (n - 1) 0)) (f (p.getD n 0)) = true
      · rw [hd, if_pos rfl]
        exact hq p n q g (Nat.le_refl _) (by omega) h1 d e
      · have hd0 := bool_no hd
        rw [hd0, if_neg Bool.false_ne_true]
        have ek : Ky f p n = Ky f p (n - 1) := o.anti _ _ hb0 hd0
        refine ih _ _ _ g (by omega) (by omega) (fun i hi => ?_) (fun i h3 h4 => ?_) fun p' n' q' a1 a2 => hq p' n' q' a1 (by omega)
        · by_cases h4 : i + 1 < n
          · exact d i h4
          · have : i = n - 1 := by omega
            subst this
            have e1 : n - 1 + 1 = n := by omega
            rw [e1]; exact hd0
        · have e2 : n + 1 - 1 = n := by omega
          rw [e2]
          by_cases h5 : i = n
          · rw [h5]
          · rw [ek]; exact e i (by omega) (by omega)
theorem wp_tail3 (hc : Asks lt f N s cmp) (hN : 1 ≤ N) {Q : Nat × Array Nat → Shared → Prop} {p : Array Nat} {n : Nat} (g : Good N p) (h1 : 1 ≤ n) (hn : n ≤ N) (d : DnTo lt f p n) (hq : ∀ m p', Good N p' → 1 ≤ m → m ≤ N → UpTo lt f p' m → Q (m, p') s) : (kas_tail3 n N p).kasWp cmp Q s := by
  unfold kas_tail3
  rw [KasT.kasWp_bind]
  have sz := g.size
  refine wp_asc hc (rev_good g) hN _ _ (by omega) h1 (fun i hi => ?_) fun m a b u _ => hq m _ (rev_good g) (by omega) (by omega) u
  unfold Ky
  rw [rev_get (by omega), rev_get (by omega), if_pos (by omega), if_pos (by omega)]
  have := d (n - 1 - (i + 1)) (by omega)
  unfold Ky at this
  have e1 : 0 + n - 1 - (i + 1) = n - 1 - (i + 1) := by omega
  have e2 : 0 + n - 1 - i = n - 1 - (i + 1) + 1 := by omega
  rw [e1, e2]; exact this
theorem wp_descPart (o : Ordr lt) (hc : Asks lt f N s cmp) (hN : 1 ≤ N) {Q : Nat × Array Nat → Shared → Prop} {p : Array Nat} {n : Nat} (g : Good N p) (hn : n + 1 ≤ N) (d : DnTo lt f p (n + 1)) (hq : ∀ m p', Good N p' → 1 ≤ m → m ≤ N → UpTo lt f p' m → Q (m, p') s) : (kas_descPart n N p).kasWp cmp Q s := by
  unfold kas_descPart
  rw [KasT.kasWp_bind]
  refine wp_desc o hc hN _ _ _ _ g (by omega) (by omega) d (fun i a b => ?_) fun p' n' q' g' a b c d' e' => ?_
  · have : i = n + 1 - 1 := by omega
    rw [this]
  · have sz := g'.size
    dsimp only
    by_cases h : q' > 0
    · rw [if_pos h]
      refine wp_tail3 hc hN (rev_good g') (by omega) b (fun i hi => ?_) hq
      rw [rev_eqs (by omega) e', rev_eqs (by omega) e']
      exact d' i hi
    · rw [if_neg h]
      exact wp_tail3 hc hN g' (by omega) b d' hq
theorem wp_count (o : Ordr lt) (hc : Asks lt f N s cmp) (hN : 1 ≤ N) {Q : Nat × Array Nat → Shared → Prop} {p : Array Nat} (g : Good N p) (hq : ∀ m p', Good N p' → 1 ≤ m → m ≤ N → UpTo lt f p' m → Q (m, p') s) : (kas_count N p).kasWp cmp Q s := by
  unfold kas_count
  rw [KasT.kasWp_bind]
  have sz := g.size
  refine wp_asc hc g hN _ _ (by omega) (Nat.le_refl _) (fun i hi => by omega) fun m a b u l => ?_
  by_cases hm : m = N
  · rw [if_pos (by simpa using hm)]
    exact hq m p g a (by omega) u
  · rw [if_neg (by simpa using hm)]
    have hl := l (by omega)
    by_cases h1 : m > 1
    · rw [if_pos h1]
      refine wp_ask hc (g.lt hN _) (g.lt hN _) ?_
      by_cases hb : lt (f (p.getD 0 0)) (f (p.getD (m - 1) 0)) = true
      · rw [hb, if_pos rfl]
        exact hq m p g a (by omega) u
      · have hb0 := bool_no hb
        rw [hb0, if_neg Bool.false_ne_true]
        have e : Eqs f p 0 m := fun i _ hi => by
          have u1 := u.le o i 0 (by omega)
          rw [Nat.zero_add] at u1
          have u2 := u.le o (m - 1 - i) i (by omega)
          have e1 : i + (m - 1 - i) = m - 1 := by omega
          rw [e1] at u2
          have hb1 : lt (Ky f p 0) (Ky f p (m - 1)) = false := hb0
          exact o.anti _ _ (o.tr _ _ _ hb1 u1) u2
        refine wp_descPart o hc hN (rev_good g) (by omega) (fun i hi => ?_) hq
        rw [rev_eqs (by omega) e, rev_eqs (by omega) e]
        by_cases h4 : i + 1 < m
        · rw [e i (by omega) (by omega), e (i + 1) (by omega) h4]; exact o.refl _
        · have : i = m - 1 := by omega
          subst this
          have e1 : m - 1 + 1 = m := by omega
          rw [e1]; exact o.asym _ _ hl
    · rw [if_neg h1]
      refine wp_descPart o hc hN g (by omega) (fun i hi => ?_) hq
      have : i = m - 1 := by omega
      subst this
      have e1 : m - 1 + 1 = m := by omega
      rw [e1]; exact o.asym _ _ hl
theorem wp_place (o : Ordr lt) (hc : Asks lt f N s cmp) (hN : 1 ≤ N) {Q : Nat → Shared → Prop} {p : Array Nat} {k : Nat} (g : Good N p) (u : UpTo lt f p k) : ∀ (fu l r : Nat), l ≤ r → r ≤ k → r - l ≤ fu → (∀ i, i < l → lt (Ky f p k) (Ky f p i) = false) → (∀ i, r ≤ i → i < k → lt (Ky f p k) (Ky f p i) = true) →
    (∀ m, m ≤ k → (∀ i, i < m → lt (Ky f p k) (Ky f p i) = false) → (∀ i, m ≤ i → i < k → lt (Ky f p k) (Ky f p i) = true) → Q m s) → (kas_place p k fu l r).kasWp cmp Q s := by
  intro fu
  induction fu with
  | zero =>
    intro l r h1 h2 h3 lo hi hq
    rw [kas_place.eq_1]
    have : l = r := by omega
    subst this
    exact hq l h2 lo hi
  | succ fu ih =>
    intro l r h1 h2 h3 lo hi hq
    rw [kas_place.eq_2]
    by_cases h : l ≥ r
    · rw [if_pos h]
      have : l = r := by omega
      subst this
      exact hq l h2 lo hi
    · rw [if_neg h]
      refine wp_ask hc (g.lt hN _) (g.lt hN _) ?_
      by_cases hb : lt (f (p.getD k 0)) (f (p.getD ((l + r) / 2) 0)) = true
      · rw [hb, if_pos rfl]
        refine ih l ((l + r) / 2) (by omega) (by omega) (by omega) lo (fun i h4 h5 => ?_) hq
        by_cases hr : r ≤ i
        · exact hi i hr h5
        · by_cases hx : lt (Ky f p k) (Ky f p i) = true
          · exact hx
          · have u1 := u.le o (i - (l + r) / 2) ((l + r) / 2) (by omega)
            have e1 : (l + r) / 2 + (i - (l + r) / 2) = i := by omega
            rw [e1] at u1
            have := o.tr _ _ _ u1 (bool_no hx)
            have hb1 : lt (Ky f p k) (Ky f p ((l + r) / 2)) = true := hb
            rw [hb1] at this; cases this
      · have hb0 := bool_no hb
        rw [hb0, if_neg Bool.false_ne_true]
        refine ih ((l + r) / 2 + 1) r (by omega) h2 (by omega) (fun i h4 => ?_) hi hq
        have u1 := u.le o ((l + r) / 2 - i) i (by omega)
        have e1 : i + ((l + r) / 2 - i) = (l + r) / 2 := by omega
        rw [e1] at u1
        exact o.tr _ _ _ u1 hb0
theorem wp_bin (o : Ordr lt) (hc : Asks lt f N s cmp) (hN : 1 ≤ N) {Q : Array Nat → Shared → Prop} : ∀ (fu : Nat) (p : Array Nat) (n : Nat), Good N p → n + fu = N → UpTo lt f p n → (∀ p', Good N p' → UpTo lt f p' N → Q p' s) → (kas_bin fu p n).kasWp cmp Q s := by
  intro fu
  induction fu with
  | zero =>
    intro p n g h u hq
    rw [kas_bin.eq_1]
    have : n = N := by omega
    subst this
    exact hq p g u
  | succ fu ih =>
    intro p n g h u hq
    rw [kas_bin.eq_2, KasT.kasWp_bind]
    have sz := g.size
    refine wp_place o hc hN g u _ _ _ (Nat.zero_le _) (Nat.le_refl _) (by omega) (fun i z => by omega) (fun i a b => by omega) fun m hm lo hi => ?_
    refine ih _ _ (bub_good g) (by omega) (fun i hi' => ?_) hq
    have K' : ∀ j, Ky f (bubble p n (n - m)) j = if j = m then Ky f p n else if m < j ∧ j ≤ n then Ky f p (j - 1) else Ky f p j := by
      intro j
      unfold Ky
      rw [bub_get (by omega) _ (by omega)]
      have e1 : n - (n - m) = m := by omega
      rw [e1]
      by_cases h1 : j = m
      · rw [if_pos h1, if_pos h1]
      · rw [if_neg h1, if_neg h1]
        by_cases h2 : m < j ∧ j ≤ n
        · rw [if_pos h2, if_pos h2]
        · rw [if_neg h2, if_neg h2]
    rw [K', K']
    by_cases h1 : i + 1 < m
    · rw [if_neg (by omega), if_neg (by omega), if_neg (by omega), if_neg (by omega)]
      exact u i (by omega)
    · by_cases h2 : i + 1 = m
      · rw [if_pos h2, if_neg (by omega), if_neg (by omega)]
        exact lo i (by omega)
      · by_cases h3 : i = m
        · rw [if_neg (by omega), if_pos (by omega), if_pos h3]
          have e1 : i + 1 - 1 = i := by omega
          rw [e1]
          exact o.asym _ _ (hi i (by omega) (by omega))
        · rw [if_neg (by omega), if_pos (by omega), if_neg h3, if_pos (by omega)]
          have := u (i - 1) (by omega)
          have e1 : i + 1 - 1 = i - 1 + 1 := by omega
          rw [e1]; exact this
theorem wp_sort (o : Ordr lt) (hc : Asks lt f N s cmp) (hN : 1 ≤ N) {Q : Array Nat → Shared → Prop} (hq : ∀ p, Good N p → UpTo lt f p N → Q p s) : (kas_sort N).kasWp cmp Q s := by
  unfold kas_sort
  rw [KasT.kasWp_bind]
  refine wp_count o hc hN ⟨.refl _⟩ fun m p' g h1 hm u => ?_
  dsimp only
  by_cases h : m < N
  · rw [if_pos h]
    have e : max m 1 = m := by omega
    rw [e]
    exact wp_bin o hc hN _ _ _ g (by omega) u hq
  · rw [if_neg h]
    have : m = N := by omega
    subst this
    exact hq p' g u
end
end L2
set_option Elab.async false
set_option linter.all false
set_option maxRecDepth 100000
namespace L2
open PySem PySem.Spec PyProof.Rows PySem.W
section
variable {prog : Program} {w : World} {A : Around} {E : Value → Shared → Prop} {s : Shared} {α : Type}
structure Comps (prog : Program) (w : World) (h : Heap) (vs : List Value) (lt : α → α → Bool) (f : Nat → α) : Prop where
  ex : 2 ≤ vs.length → ∃ κ : SortKind, (∀ (A' : Around) (E' : Value → Shared → Prop) (s' : Shared) (Q' : SortKind → Shared → Prop), Keeps h s'.heap → Q' κ s' → wpAny (model prog w) A' (keyKind' vs.toArray) Q' E' s') ∧
    ∀ (A' : Around) (s' : Shared) (i j : Nat) (C : Bool → Shared → Prop), A'.units + 2 < cLine → Keeps h s'.heap → i < vs.length → j < vs.length → C (lt (f i) (f j)) s' → wpAny (model prog w) A' (keyLt' κ (vs.getD i Value.none) (vs.getD j Value.none)) C (fun _ _ => False) s'
def byP (vs : List Value) (p : Array Nat) : List Value := p.toList.map fun i => vs.getD i Value.none
theorem any_sort {a : Addr} {vs : List Value} {n : Nat} {h0 : Heap} {lt : α → α → Bool} {f : Nat → α} {P : PySem.Fin → Shared → Prop} (o : Ordr lt) (hu : A.units + 2 < cLine) (hr : Comps prog w h0 vs lt f) (h64 : vs.length < 64) (ho : s.heap.get? a = some (seqObj "list" vs.toArray n)) (hk : ∀ b o, h0.get? b = some o → s.heap.get? b = some o ∧ b ≠ a)
    (h : ∀ p, Good vs.length p → UpTo lt f p vs.length → P (.done (.ret .none)) { s with heap := sortedHeap s.heap a vs (byP vs p).toArray }) : wpAny (model prog w) A (Builtin.«list.sort» ⟨[.ref a], []⟩) P E s := by
  rw [list_sort_plain]
  have ha : a < s.heap.objs.size := Heap.lt_size ho
  have hz : vs.length ≤ sizeLine := by rw [sizeLine_eq]; omega
  refine wpAny_bind (listItems_at ho rfl (wpAny_bind (listUpdate_at ho rfl ?_ (by show vs.toArray.size ≤ _; rw [List.size_toArray]; omega) (by show (#[] : Array Value).size ≤ _; simp))))
  have ho1 := get?_update_seq ho (fun _ => #[])
  refine wpAny_bind (seqEpoch_at ho1 rfl (wpAny_bind (wpAny_newTuple (wpAny_bind (wpAny_newList (wpAny_holding ?_) (by simp))) (by simpa using hz))))
  show wpAny (model prog w) A _ P E { s with heap := ((s.heap.update a (Obj.mapSeq fun _ => #[])).push (seqObj "tuple" vs.toArray 0)).push (seqObj "list" #[] 0) }
  have ho6 : (((s.heap.update a (Obj.mapSeq fun _ => #[])).push (seqObj "tuple" vs.toArray 0)).push (seqObj "list" #[] 0)).get? a = some _ := Heap.get?_push_of_some _ (Heap.get?_push_of_some _ ho1)
  have kp : Keeps h0 (((s.heap.update a (Obj.mapSeq fun _ => #[])).push (seqObj "tuple" vs.toArray 0)).push (seqObj "list" #[] 0)) := fun b o e => by
    obtain ⟨e1, e2⟩ := hk b o e
    refine Heap.get?_push_of_some _ (Heap.get?_push_of_some _ ?_)
    rw [Heap.get?_update_ne _ _ _ _ e2]; exact e1
  dsimp only
  by_cases h2 : vs.toArray.size < 2
  · rw [if_pos h2, if_pos h2]
    refine wpAny_bind (wpAny_pure ?_)
    rw [StateT.run_pure]
    refine wpAny_bind (wpAny_pure ?_)
    dsimp only
    have h2' : vs.length < 2 := by simpa using h2
    have gd : Good vs.length (List.range vs.length).toArray := ⟨.refl _⟩
    have up : UpTo lt f (List.range vs.length).toArray vs.length := fun i hi => by omega
    have eb : byP vs (List.range vs.length).toArray = vs := by
      unfold byP
      refine List.ext_getElem? fun i => ?_
      simp only [List.getElem?_map]
      by_cases hi : i < vs.length
      · simp [hi, List.getD_eq_getElem?_getD]
      · simp [hi]
    have h' := h _ gd up
    rw [eb] at h'
    have eo : (arrOf (SortSt.mk' general' (vs.toArray.zip vs.toArray) #[] 7 none)).map (·.2) = vs.toArray := by
      show (vs.toArray.zip vs.toArray).map (·.2) = _
      apply Array.toList_inj.mp
      simp [List.map_snd_zip]
    refine wpAny_bind (seqEpoch_at ho6 rfl ?_)
    rw [eo]
    refine wpAny_bind (listUpdate_at ho6 rfl ?_ (by simp) (by rw [List.size_toArray]; omega))
    simp only [bne_self_eq_false, Bool.false_eq_true, if_false]
    exact wpAny_pure h'
  · rw [if_neg h2, if_neg h2]
    have h2' : 2 ≤ vs.length := by simpa using h2
    obtain ⟨κ, hkind, hless⟩ := hr.ex h2'
    refine wpAny_bind (hkind _ _ _ _ kp ?_)
    refine wpAny_bind (wpAny_mono (kat_run (ks := vs) (vs := vs) (κ := κ) (E := E) (Q := fun st' s' => ∃ p, Good vs.length p ∧ UpTo lt f p vs.length ∧ (arrOf st').map (·.2) = (byP vs p).toArray ∧ failedOf st' = none ∧ s' = { s with heap := ((s.heap.update a (Obj.mapSeq fun _ => #[])).push (seqObj "tuple" vs.toArray 0)).push (seqObj "list" #[] 0) })
      (G := fun p s' => Good vs.length p ∧ UpTo lt f p vs.length ∧ s' = { s with heap := ((s.heap.update a (Obj.mapSeq fun _ => #[])).push (seqObj "tuple" vs.toArray 0)).push (seqObj "list" #[] 0) }) rfl h2' h64 (fun p st' s' hp har hf hG => ⟨p, hG.1, hG.2.1, ?_, hf, hG.2.2⟩) (wp_sort o (fun i j C hi hj hC => ?_) (by omega) fun p g u => ⟨g, u, rfl⟩)) ?_ fun _ _ e => e)
    · rw [kat_snds rfl har]; rfl
    · exact hless A _ i j C hu kp hi hj hC
    · rintro ⟨⟨⟩, st'⟩ s' ⟨p, g, u, eo, hf, rfl⟩
      dsimp only
      dsimp only at eo hf
      refine wpAny_bind (seqEpoch_at ho6 rfl ?_)
      rw [eo]
      refine wpAny_bind (listUpdate_at ho6 rfl ?_ (by simp) ?_)
      · rw [hf]
        simp only [bne_self_eq_false, Bool.false_eq_true, if_false]
        exact wpAny_pure (h p g u)
      · unfold byP
        rw [List.size_toArray, List.length_map, Array.length_toList, g.size]; omega
theorem any_sorted {l : Addr} {vs : List Value} {lt : α → α → Bool} {f : Nat → α} {Q : Value → Shared → Prop} (o : Ordr lt) (hu : A.units + 10 < cLine) (hr : Comps prog w s.heap vs lt f) (h64 : vs.length < 64) (hl : s.heap.IsList l vs.toArray)
    (h : ∀ p, Good vs.length p → UpTo lt f p vs.length → Q (.ref (s.heap.objs.size + 1)) { s with heap := sortedAll s.heap vs (byP vs p).toArray }) : wpAny (model prog w) A (call (.builtin "sorted") [.ref l]) Q E s := by
  have hz : vs.length ≤ sizeLine := by rw [sizeLine_eq]; omega
  refine Calls.call_function_entry kind_sorted plain_sorted entry_sorted (args_sorted1 _) ?_
  unfold Builtin.«sorted»
  refine wpAny_bind (m := checkCount "sorted" 1 1 _) (wpAny_pure (wpAny_bind (collect_list hl ?_ hz)))
  refine wpAny_bind (wpAny_newList ?_ (by simpa using hz))
  have e1 : ((s.heap.push (seqObj "list" #[] 0)).update s.heap.objs.size (Obj.mapSeq (· ++ vs.toArray))).objs.size = s.heap.objs.size + 1 := by rw [Heap.size_update, size_push']
  have e2 : (((s.heap.push (seqObj "list" #[] 0)).update s.heap.objs.size (Obj.mapSeq (· ++ vs.toArray))).push (seqObj "list" vs.toArray 0)).get? (s.heap.objs.size + 1) = some (seqObj "list" vs.toArray 0) := by
    rw [← e1]; exact Heap.get?_push_size _ rfl
  show wpAny _ _ _ _ _ { s with heap := ((s.heap.push (seqObj "list" #[] 0)).update s.heap.objs.size (Obj.mapSeq (· ++ vs.toArray))).push (seqObj "list" vs.toArray 0) }
  rw [e1]
  refine wpAny_bind (wpAny_holding (wpAny_call_entry slot_list_sort ⟨_, e2, rfl⟩ entry_list_sort (any_sort (h0 := s.heap) o (by show A.units + 1 + 1 + 2 < cLine; omega) hr h64 e2 (fun b o e => ⟨?_, Nat.ne_of_lt (Nat.lt_succ_of_lt (Heap.lt_size e))⟩) fun p g u => ⟨_, rfl, wpAny_pure ⟨_, rfl, h p g u⟩⟩) (args_list_sort _)))
  have hlt : b < s.heap.objs.size := Heap.lt_size e
  refine Heap.get?_push_of_some _ ?_
  rw [Heap.get?_update_ne _ _ _ _ (Nat.ne_of_lt hlt)]
  exact Heap.get?_push_of_some _ e
end
def cltB (a b : Cell) : Bool := decide (cellLt a b)
theorem clt_ord : Ordr cltB := by
  refine ⟨fun a b h => ?_, fun a b c h1 h2 => ?_, fun a b h1 h2 => ?_⟩
  · have := of_decide_eq_true h
    refine decide_eq_false ?_
    unfold cellLt at *; omega
  · have h1' := of_decide_eq_false h1
    have h2' := of_decide_eq_false h2
    refine decide_eq_false ?_
    unfold cellLt at *; omega
  · have h1' := of_decide_eq_false h1
    have h2' := of_decide_eq_false h2
    unfold cellLt at *
    exact Prod.ext (by omega) (by omega)
section
variable {X : Cx}
theorem cells_comps {pins : List (Addr × Obj)} {σ : L2.St} {H : Hp} {s : Shared} {vs : List V} {us : List Value} {cs : List Cell} (I : Inv X pins σ H s) (D : Dens X.K H vs (cs.map cellD)) (r : Vals vs us) : Comps X.prog X.w s.heap us cltB fun i => cs.getD i (0, 0) := by
  have hl : us.length = cs.length := by rw [← r.length, D.length, List.length_map]
  have at_ : ∀ i, (hi : i < cs.length) → ∃ (a : Addr) (o : Obj) (t t' : Tok) (n : Nat), us.getD i Value.none = .ref a ∧ s.heap.get? a = some o ∧ o.cls = .type "tuple" ∧ o.data = .seq #[.int cs[i].1 t, .int cs[i].2 t'] n := fun i hi => by
    have hv : i < vs.length := by rw [r.length, hl]; exact hi
    have ev : vs[i]? = some vs[i] := by simp [hv]
    obtain ⟨u, eu, ru⟩ := r.get ev
    obtain ⟨d, ed, dd⟩ := D.get ev
    rw [List.getElem?_map, List.getElem?_eq_getElem hi] at ed
    cases ed
    obtain ⟨a, o, t, t', n, rfl, h1, h2, h3⟩ := cell_obj I dd ru
    exact ⟨a, o, t, t', n, by rw [List.getD_eq_getElem?_getD, eu]; rfl, h1, h2, h3⟩
  refine ⟨fun h2 => ⟨tuples' true, fun A' E' s' Q' kp q => ?_, fun A' s' i j C hu kp hi hj hC => ?_⟩⟩
  · have kt : ∀ (cs : List Cell) (us : List Value), us.length = cs.length → (∀ i, (hi : i < cs.length) → ∃ (a : Addr) (o : Obj) (t t' : Tok) (n : Nat), us.getD i Value.none = .ref a ∧ s.heap.get? a = some o ∧ o.cls = .type "tuple" ∧ o.data = .seq #[.int cs[i].1 t, .int cs[i].2 t'] n) →
        ∃ fs : List Value, fs.length = us.length ∧ (∀ f ∈ fs, ∃ i t, f = Value.int i t) ∧ KatTups s'.heap us fs := by
      intro cs
      induction cs with
      | nil =>
        intro us e _
        cases us with
        | nil => exact ⟨[], rfl, (fun f hf => by cases hf), .nil⟩
        | cons a b => simp at e
      | cons c cs ih =>
        intro us e h
        cases us with
        | nil => simp at e
        | cons u us =>
          obtain ⟨a, o, t, t', n, e1, e2, e3, e4⟩ := h 0 (by simp)
          have eu : u = .ref a := e1
          subst eu
          obtain ⟨fs, f1, f2, f3⟩ := ih us (by simpa using e) fun i hi => by
            have := h (i + 1) (by simpa using hi)
            simpa using this
          refine ⟨.int c.1 t :: fs, by simp [f1], fun f hf => ?_, KatTups.cons (kp _ _ e2) e3 e4 rfl f3⟩
          rcases List.mem_cons.mp hf with z | z
          · exact ⟨_, _, z⟩
          · exact f2 f z
    obtain ⟨fs, f1, f2, f3⟩ := kt cs us hl at_
    refine kat_kind (T := .type "int") f3 (by omega) (fun v hv => ?_) (by decide) ?_
    · obtain ⟨i, t, rfl⟩ := f2 v hv
      exact Looks.of_pure rfl
    · exact q
  · rw [hl] at hi hj
    obtain ⟨a, o, t, t', n, e1, e2, e3, e4⟩ := at_ i hi
    obtain ⟨b, o2, t2, t2', n2, g1, g2, g3, g4⟩ := at_ j hj
    rw [e1, g1]
    have ci : cs.getD i (0, 0) = cs[i] := by rw [List.getD_eq_getElem?_getD, List.getElem?_eq_getElem hi]; rfl
    have cj : cs.getD j (0, 0) = cs[j] := by rw [List.getD_eq_getElem?_getD, List.getElem?_eq_getElem hj]; rfl
    rw [ci, cj] at hC
    refine kat_lt (kp _ _ e2) e4 (kp _ _ g2) g4 ?_
    have out : ∀ x : Bool, (x = true ↔ cellLt cs[i] cs[j]) → C x s' := fun x hx => by
      have : x = cltB cs[i] cs[j] := by
        unfold cltB
        cases x
        · exact (decide_eq_false fun z => by have := hx.mpr z; cases this).symm
        · exact (decide_eq_true (hx.mp rfl)).symm
      rw [this]; exact hC
    refine kat_cons (wpAny_eqBool_int ?_)
    by_cases q1 : cs[i].1 = cs[j].1
    · rw [show (cs[i].1 == cs[j].1) = true from beq_iff_eq.mpr q1]
      refine kat_yes (kat_cons (wpAny_eqBool_int ?_))
      by_cases q2 : cs[i].2 = cs[j].2
      · rw [show (cs[i].2 == cs[j].2) = true from beq_iff_eq.mpr q2]
        refine kat_yes (kat_nil (out _ ⟨fun z => ?_, fun z => ?_⟩))
        · have := of_decide_eq_true z; simp at this
        · unfold cellLt at z; omega
      · rw [show (cs[i].2 == cs[j].2) = false from beq_eq_false_iff_ne.mpr q2]
        refine kat_no (kat_one _ _ (lt_int (out _ ?_)))
        rw [decide_eq_true_iff]; unfold cellLt; omega
    · rw [show (cs[i].1 == cs[j].1) = false from beq_eq_false_iff_ne.mpr q1]
      refine kat_no (oneLt_int (out _ ?_))
      rw [decide_eq_true_iff]; unfold cellLt; omega
theorem vals_by {vs : List V} {us : List Value} (r : Vals vs us) : ∀ (ps : List Nat), (∀ i ∈ ps, i < vs.length) → Vals (ps.map fun i => vs.getD i .non) (ps.map fun i => us.getD i Value.none)
  | [], _ => .nil
  | i :: ps, h => by
    have hi := h i List.mem_cons_self
    obtain ⟨u, eu, ru⟩ := r.get (show vs[i]? = some vs[i] from by simp [hi])
    have e1 : vs.getD i .non = vs[i] := by simp [List.getD_eq_getElem?_getD, hi]
    have e2 : us.getD i Value.none = u := by rw [List.getD_eq_getElem?_getD, eu]; rfl
    rw [List.map_cons, List.map_cons, e1, e2]
    exact .cons ru (vals_by r ps fun j hj => h j (List.mem_cons_of_mem _ hj))
theorem dens_by {K : PySem.W.Frag} {H : Hp} {vs : List V} {ds : List Dt} {d0 : Dt} (D : Dens K H vs ds) : ∀ (ps : List Nat), (∀ i ∈ ps, i < vs.length) → Dens K H (ps.map fun i => vs.getD i .non) (ps.map fun i => ds.getD i d0)
  | [], _ => .nil
  | i :: ps, h => by
    have hi := h i List.mem_cons_self
    obtain ⟨d, ed, dd⟩ := D.get (show vs[i]? = some vs[i] from by simp [hi])
    have e1 : vs.getD i .non = vs[i] := by simp [List.getD_eq_getElem?_getD, hi]
    have e2 : ds.getD i d0 = d := by rw [List.getD_eq_getElem?_getD, ed]; rfl
    rw [List.map_cons, List.map_cons, e1, e2]
    exact .cons dd (dens_by D ps fun j hj => h j (List.mem_cons_of_mem _ hj))
theorem perm_by {β : Type} {xs : List β} {d : β} {ps : List Nat} (h : ps.Perm (List.range xs.length)) : (ps.map fun i => xs.getD i d).Perm xs := by
  have e : (List.range xs.length).map (fun i => xs.getD i d) = xs := by
    refine List.ext_getElem? fun i => ?_
    simp only [List.getElem?_map]
    by_cases hi : i < xs.length
    · simp [hi, List.getD_eq_getElem?_getD]
    · simp [hi]
  exact (h.map _).trans (by rw [e])
def Asc (cs : List Cell) : Prop := cs.Pairwise fun a b => ¬ cellLt b a
def rSortC (K : PySem.W.Frag) : List V → Hp → VK → Prop := fun xs H Q => ∃ (p : Addr) (vs : List V) (cs : List Cell), xs = [.ref p] ∧ SqL K H p vs ∧ Dens K H vs (cs.map cellD) ∧ cs.length < 64 ∧ ∀ l ws ds, H l = none → ws.Perm vs → Dens K H ws (ds.map cellD) → ds.Perm cs → Asc ds → Q (.ref l) (upd H l (.lst ws))
theorem call_sortC (hu : X.A.units + 60 < cLine) : CallR X (.builtin "sorted") (rSortC X.K) := by
  intro pins s σ H xs us Q I r h
  obtain ⟨p, vs, cs, rfl, hS, D, h64, q⟩ := h
  obtain ⟨u, rfl, ru⟩ := vals1 r
  cases ru
  obtain ⟨its, rv, pl, hz⟩ := I.list hS
  have hl : its.length = cs.length := by rw [← rv.length, D.length, List.length_map]
  have hv : vs.length = its.length := rv.length
  refine any_sorted clt_ord (by omega) (cells_comps I D rv) (by omega) pl.isList fun o g up => ?_
  obtain ⟨e, he⟩ := sortedAll_at s.heap its (byP its o).toArray
  have hn : H (s.heap.objs.size + 1) = none := I.hok.fresh (Nat.le_succ _)
  have bd : ∀ i ∈ o.toList, i < vs.length := fun i hi => by rw [hv]; exact List.mem_range.mp (g.perm.mem_iff.mp hi)
  have rv' : Vals (o.toList.map fun i => vs.getD i .non) (byP its o) := vals_by rv o.toList bd
  have pv : (o.toList.map fun i => vs.getD i .non).Perm vs := perm_by (by rw [hv]; exact g.perm)
  have dv : Dens X.K H (o.toList.map fun i => vs.getD i .non) ((o.toList.map fun i => cs.getD i (0, 0)).map cellD) := by
    have := dens_by (d0 := cellD (0, 0)) D o.toList bd
    have e1 : (o.toList.map fun i => (cs.map cellD).getD i (cellD (0, 0))) = ((o.toList.map fun i => cs.getD i (0, 0)).map cellD) := by
      rw [List.map_map]
      refine List.map_congr_left fun i hi => ?_
      simp only [List.getD_eq_getElem?_getD, List.getElem?_map, Function.comp]
      cases cs[i]? <;> rfl
    rw [← e1]; exact this
  have pc : (o.toList.map fun i => cs.getD i (0, 0)).Perm cs := perm_by (by rw [← hl]; exact g.perm)
  have as : Asc (o.toList.map fun i => cs.getD i (0, 0)) := by
    unfold Asc
    rw [List.pairwise_iff_getElem]
    intro i j hi hj hij
    rw [List.length_map, Array.length_toList, g.size] at hi hj
    have := up.le clt_ord (j - i) i (by omega)
    have e1 : i + (j - i) = j := by omega
    rw [e1] at this
    have := of_decide_eq_false this
    have sz := g.size
    have a1 : Ky (fun i => cs.getD i (0, 0)) o i = (o.toList.map fun i => cs.getD i (0, 0))[i] := by
      unfold Ky
      rw [List.getElem_map, Array.getD_eq_getD_getElem?, Array.getElem?_eq_getElem (by omega)]
      rfl
    have a2 : Ky (fun i => cs.getD i (0, 0)) o j = (o.toList.map fun i => cs.getD i (0, 0))[j] := by
      unfold Ky
      rw [List.getElem_map, Array.getD_eq_getD_getElem?, Array.getElem?_eq_getElem (by omega)]
      rfl
    rw [← a1, ← a2]; exact this
  have hz' : (o.toList.map fun i => vs.getD i .non).length ≤ sizeLine := by rw [pv.length_eq]; exact hz
  exact ⟨.ref (s.heap.objs.size + 1), upd H (s.heap.objs.size + 1) (.lst (o.toList.map fun i => vs.getD i .non)), I.laid (a := s.heap.objs.size + 1) (o := .lst (o.toList.map fun i => vs.getD i .non)) (t' := s.toks) (fun b o q => sortedAll_old q) (Nat.le_succ _) ⟨hz', byP its o, e, rv', he⟩, rfl, q _ _ _ hn pv dv pc as⟩
theorem k_sortC {K : PySem.W.Frag} (hu : X.A.units + 60 < cLine) (hK : X.K = K := by rfl) : CallR X (.builtin "sorted") (rSortC K) := by subst hK; exact call_sortC hu
end
end L2
set_option Elab.async false
set_option linter.all false
set_option maxRecDepth 100000
namespace L2
open PySem PySem.Spec PyProof.Rows PySem.SeqAt PySem.MeetsSeq PySem.MeetsSeq2 PySem.MeetsSeq3
open PySem.AutoSeq1 (wpAny_loadPart')
theorem rcGe_int (A : Around) (s : Shared) (a : Int) (t : Tok) (c : Int) (u : Tok) (prog : Program) (w : World) (E : Value → Shared → Prop) (Q : Value → Shared → Prop) (h : Q (.bool (decide (c ≤ a))) s) : wpAny (model prog w) A (richCompare .GtE (.int a t) (.int c u)) Q E s :=
  (ge_int h : wpAny (model prog w) A (compareOp .GtE (.int a t) (.int c u)) Q E s)
theorem ge_pair (p q : Addr) (x1 x2 y1 y2 : Int) (t1 t2 u1 u2 : Tok) (n m : Nat) (d1 d2 : Option Addr) (z1 z2 : Array (Option Value)) : Meets (Builtin.«tuple.__ge__» ⟨[.ref p, .ref q], []⟩)
    (fun _ R s => s.heap.get? p = some { cls := .type "tuple", dict := d1, data := .seq #[.int x1 t1, .int x2 t2] n, slots := z1 } ∧ s.heap.get? q = some { cls := .type "tuple", dict := d2, data := .seq #[.int y1 u1, .int y2 u2] m, slots := z2 } ∧ R (.ok (.ret (.bool (!cltB (x1, x2) (y1, y2))))) s) :=
  .of_wp fun prog w A R s h => by
    obtain ⟨hp, g, d, tk, os⟩ := s; obtain ⟨e1, e2, h⟩ := h
    have f2 := AutoSeq1.sub_tuple_tuple
    have k1 := fun (Q : Bool → Shared → Prop) (E : Value → Shared → Prop) (h : Q (x1 == y1) ⟨hp, g, d, tk, os⟩) => (wpAny_eqBool_int (t := t1) (u := u1) h : wpAny (model prog w) A.in1 (eqBool (.int x1 t1) (.int y1 u1)) Q E ⟨hp, g, d, tk, os⟩)
    have k2 := fun (Q : Bool → Shared → Prop) (E : Value → Shared → Prop) (h : Q (x2 == y2) ⟨hp, g, d, tk, os⟩) => (wpAny_eqBool_int (t := t2) (u := u2) h : wpAny (model prog w) A.in1 (eqBool (.int x2 t2) (.int y2 u2)) Q E ⟨hp, g, d, tk, os⟩)
    have r1 := rcGe_int A.in1 ⟨hp, g, d, tk, os⟩ x1 t1 y1 u1 prog w
    have r2 := rcGe_int A.in1 ⟨hp, g, d, tk, os⟩ x2 t2 y2 u2 prog w
    have out : ∀ b : Bool, (b = true ↔ ¬ cellLt (x1, x2) (y1, y2)) → R (.ok (.ret (.bool b))) ⟨hp, g, d, tk, os⟩ := fun b hb => by
      have : b = !cltB (x1, x2) (y1, y2) := by
        unfold cltB
        by_cases hc : cellLt (x1, x2) (y1, y2)
        · rw [decide_eq_true hc]
          cases b
          · rfl
          · exact absurd hc (hb.mp rfl)
        · rw [decide_eq_false hc]; exact hb.mpr hc
      rw [this]; exact h
    wp_walk using wpAny_loadPart' e1, wpAny_loadPart' e2, k1, k2
    by_cases q1 : x1 = y1
    · rw [show (x1 == y1) = true from beq_iff_eq.mpr q1]
      wp_walk using k2
      by_cases q2 : x2 = y2
      · rw [show (x2 == y2) = true from beq_iff_eq.mpr q2]
        wp_walk
        refine ⟨_, rfl, out _ ?_⟩
        simp [Builtin.Tuple.tupleCompareSizes, cellLt, q1, q2]
      · rw [show (x2 == y2) = false from beq_eq_false_iff_ne.mpr q2]
        wp_walk using r2
        refine ⟨_, rfl, out _ ?_⟩
        rw [decide_eq_true_iff]; unfold cellLt; dsimp only; omega
    · rw [show (x1 == y1) = false from beq_eq_false_iff_ne.mpr q1]
      wp_walk using r1
      refine ⟨_, rfl, out _ ?_⟩
      rw [decide_eq_true_iff]; unfold cellLt; dsimp only; omega
section
variable {X : Cx} {K : PySem.W.Frag}
def rGeC (K : PySem.W.Frag) : R2 := fun x y H Q => ∃ (a b : Cell), Den K H x (cellD a) ∧ Den K H y (cellD b) ∧ Q (.bl (!cltB a b)) H
theorem op_geC (hu : X.A.units + 60 < cLine) : OpR X (compareOp .GtE) (rGeC X.K) := by
  intro pins s σ H x y v u Q I rx ry h
  obtain ⟨a, b, da, db, q⟩ := h
  obtain ⟨p, o, t1, t2, n, rfl, e1, c1, f1⟩ := cell_obj I da rx
  obtain ⟨p', o', u1, u2, m, rfl, e2, c2, f2⟩ := cell_obj I db ry
  obtain ⟨oc, od, of, os⟩ := o
  obtain ⟨oc', od', of', os'⟩ := o'
  dsimp only at c1 f1 c2 f2
  subst c1 f1 c2 f2
  refine richCompare_meets_room (op := .GtE) ⟨_, e1, rfl⟩ ⟨_, e2, rfl⟩ PySem.F.slot_tuple_ge PySem.F.entry_tuple_ge (PySem.F.args_tuple_ge_2 _ _) (ge_pair p p' a.1 a.2 b.1 b.2 t1 t2 u1 u2 n m od od' os os') ⟨e1, e2, ?_⟩ (by omega)
  exact (show Value.bool (!cltB a b) ≠ Value.notImplemented ∧ EP X pins σ Q (.bool (!cltB a b)) s from ⟨(fun z => nomatch z), ⟨.bl (!cltB a b), H, I, rfl, q⟩⟩)
theorem k_geC (hu : X.A.units + 60 < cLine) (hK : X.K = K := by rfl) : OpR X (compareOp .GtE) (rGeC K) := by subst hK; exact op_geC hu
end
end L2
set_option Elab.async false
set_option linter.all false
set_option maxRecDepth 100000
namespace L2
open PySem PySem.Spec PyProof.Rows
def stonesN (h w : Int) (c : Cell) (cs : List Cell) : Nat := ((lnear h w c).filter fun y => decide (y ∈ cs)).length
def ascB (cs : List Cell) : Bool := (List.range (cs.length - 1)).all fun j => cltB (cs.getD j (0, 0)) (cs.getD (j + 1) (0, 0))
def layB (zs : List Str) (w : Nat) (cs : List Cell) : Bool := ascB cs && cs.all (closedB zs w)
theorem clt_trans {a b c : Cell} (h1 : cellLt a b) (h2 : cellLt b c) : cellLt a c := by unfold cellLt at *; omega
theorem asc_iff (cs : List Cell) : ascB cs = true ↔ cs.Pairwise cellLt := by
  unfold ascB
  rw [List.all_eq_true]
  constructor
  · intro h
    have step : ∀ d i, i + d + 1 < cs.length → cellLt (cs.getD i (0, 0)) (cs.getD (i + d + 1) (0, 0)) := by
      intro d
      induction d with
      | zero => intro i hi; exact of_decide_eq_true (h i (List.mem_range.mpr (by omega)))
      | succ d ih => intro i hi; exact clt_trans (ih i (by omega)) (of_decide_eq_true (h (i + d + 1) (List.mem_range.mpr (by omega))))
    rw [List.pairwise_iff_getElem]
    intro i j hi hj hij
    have := step (j - i - 1) i (by omega)
    have e : i + (j - i - 1) + 1 = j := by omega
    rw [e] at this
    simpa [List.getD_eq_getElem?_getD, hi, hj] using this
  · intro h j hj
    rw [List.mem_range] at hj
    have := (List.pairwise_iff_getElem.mp h) j (j + 1) (by omega) (by omega) (by omega)
    refine decide_eq_true ?_
    have h1 : j < cs.length := by omega
    have h2 : j + 1 < cs.length := by omega
    simpa [List.getD_eq_getElem?_getD, h1, h2] using this
theorem lay_of {zs : List Str} {w : Nat} {cs : List Cell} (h1 : cs.Pairwise cellLt) (h2 : ∀ c ∈ cs, closedB zs w c = true) : layB zs w cs = true := by
  unfold layB
  rw [(asc_iff cs).mpr h1, Bool.true_and, List.all_eq_true]; exact h2
theorem field_asc : ∀ h ∈ List.range 7, ∀ w ∈ List.range 7, (fieldL h w).Pairwise cellLt := by decide +kernel
theorem asc_strict {cs : List Cell} (h : Asc cs) (nd : cs.Nodup) : cs.Pairwise cellLt := by
  unfold Asc at h
  have : cs.Pairwise fun a b => ¬ cellLt b a ∧ a ≠ b := h.and nd
  exact this.imp fun {a b} hab => by
    obtain ⟨h1, h2⟩ := hab
    have h3 : ¬ (a.1 = b.1 ∧ a.2 = b.2) := fun z => h2 (Prod.ext z.1 z.2)
    unfold cellLt at *; omega
theorem strict_nodup {cs : List Cell} (h : cs.Pairwise cellLt) : cs.Nodup := h.imp fun {a b} hab e => by
  subst e
  unfold cellLt at hab; omega
end L2
set_option Elab.async false
set_option linter.all false
set_option maxRecDepth 100000
namespace L2
open PySem PySem.Spec PyProof.Rows
section
variable {κ : Type} [DecidableEq κ]
def valV (kvs : List (κ × V)) (k : κ) : Option V := (kvs.find? fun kv => decide (kv.1 = k)).map (·.2)
def putK (kvs : List (κ × V)) (k : κ) (v : V) : List (κ × V) :=
  if (kvs.any fun kv => decide (kv.1 = k)) = true then kvs.map (fun kv => if kv.1 = k then (kv.1, v) else kv) else kvs ++ [(k, v)]
theorem valV_pos {p : κ × V} {r : List (κ × V)} {k : κ} (e : p.1 = k) : valV (p :: r) k = some p.2 := by simp [valV, List.find?_cons, e]
theorem valV_neg {p : κ × V} {r : List (κ × V)} {k : κ} (e : ¬ p.1 = k) : valV (p :: r) k = valV r k := by simp [valV, List.find?_cons, e]
theorem valV_any (k : κ) : ∀ kvs : List (κ × V), (kvs.any fun kv => decide (kv.1 = k)) = (valV kvs k).isSome
  | [] => rfl
  | p :: r => by
    rw [List.any_cons]
    by_cases e : p.1 = k
    · simp only [valV_pos e, decide_eq_true e, Bool.true_or, Option.isSome_some]
    · rw [valV_neg e, decide_eq_false e, Bool.false_or]; exact valV_any k r
theorem length_putK (kvs : List (κ × V)) (k : κ) (v : V) : (putK kvs k v).length ≤ kvs.length + 1 := by
  unfold putK
  split
  · rw [List.length_map]; omega
  · rw [List.length_append, List.length_cons, List.length_nil]; omega
theorem putK_new {kvs : List (κ × V)} {k : κ} (v : V) (h : valV kvs k = none) : putK kvs k v = kvs ++ [(k, v)] := by
  unfold putK
  rw [valV_any, h]
  exact if_neg (by decide)
theorem RelO.isSome_eq {o : Option V} {u : Option Value} (r : RelO o u) : o.isSome = u.isSome := by
  cases o with
  | none => cases u with
    | none => rfl
    | some _ => exact (show False from r).elim
  | some _ => cases u with
    | none => exact (show False from r).elim
    | some _ => rfl
theorem RelO.getD {o : Option V} {u : Option Value} {d : V} {d' : Value} (r : RelO o u) (rd : RelV d d') : RelV (o.getD d) (u.getD d') := by
  cases o with
  | none => cases u with
    | none => exact rd
    | some _ => exact (show False from r).elim
  | some _ => cases u with
    | none => exact (show False from r).elim
    | some _ => exact r
theorem KV.val {kvs : List (κ × V)} {vs : List (κ × Value)} (r : KV kvs vs) (k : κ) : RelO (valV kvs k) (valueAt vs k) := by
  unfold KV at r
  induction r with
  | nil => exact True.intro
  | @cons p q ps qs h t ih =>
    obtain ⟨h1, h2⟩ := h
    by_cases e : p.1 = k
    · have e' : q.1 = k := h1.symm.trans e
      have b : valueAt (q :: qs) k = some q.2 := by simp [valueAt, List.find?_cons, e']
      rw [valV_pos e, b]; exact h2
    · have e' : ¬ q.1 = k := fun z => e (h1.trans z)
      have b : valueAt (q :: qs) k = valueAt qs k := by simp [valueAt, List.find?_cons, e']
      rw [valV_neg e, b]; exact ih
theorem KV.any {kvs : List (κ × V)} {vs : List (κ × Value)} (r : KV kvs vs) (k : κ) : (kvs.any fun kv => decide (kv.1 = k)) = vs.any fun kv => decide (kv.1 = k) := by
  unfold KV at r
  induction r with
  | nil => rfl
  | cons h t ih => rw [List.any_cons, List.any_cons, ih, h.1]
theorem KV.repl {kvs : List (κ × V)} {vs : List (κ × Value)} (r : KV kvs vs) (k : κ) {y : V} {u : Value} (ry : RelV y u) :
    KV (kvs.map fun kv => if kv.1 = k then (kv.1, y) else kv) (vs.map fun kv => if kv.1 = k then (kv.1, u) else kv) := by
  unfold KV at r ⊢
  induction r with
  | nil => exact .nil
  | @cons p q ps qs h t ih =>
    rw [List.map_cons, List.map_cons]
    refine .cons ?_ ih
    obtain ⟨h1, h2⟩ := h
    by_cases e : p.1 = k
    · rw [if_pos e, if_pos (h1.symm.trans e)]; exact ⟨h1, ry⟩
    · rw [if_neg e, if_neg (fun z => e (h1.trans z))]; exact ⟨h1, h2⟩
theorem KV.put {kvs : List (κ × V)} {vs : List (κ × Value)} (r : KV kvs vs) (k : κ) {y : V} {u : Value} (ry : RelV y u) : KV (putK kvs k y) (stored vs k u) := by
  unfold putK stored
  rw [r.any k]
  by_cases e : (vs.any fun kv => decide (kv.1 = k)) = true
  · rw [if_pos e, if_pos e]; exact r.repl k ry
  · rw [if_neg e, if_neg e]; exact Paired.snoc r ⟨rfl, ry⟩
theorem KV.length {kvs : List (κ × V)} {vs : List (κ × Value)} (r : KV kvs vs) : kvs.length = vs.length := Paired.length r
end
theorem kV_is {P : Program} {w : World} {k : Key} {u : Value} (r : RelV (kV k) u) : (mixKind P w).is k u = true := by
  cases k with
  | inl i => obtain ⟨t, e⟩ := (show ∃ t, u = Value.int i t from r); subst e; exact mixKind_int P w i t
  | inr x => obtain ⟨t, e⟩ := (show ∃ t, u = Value.str x t from r); subst e; exact mixKind_str P w x t
theorem items_are {P : Program} {w : World} : ∀ {ks : List Key} {us : List Value}, Vals (ks.map kV) us → ItemsAre (mixKind P w) ks us
  | [], _, r => by rw [List.map_nil] at r; cases r; exact .nil
  | k :: ks, _, r => by
    rw [List.map_cons] at r
    cases r with
    | cons h t => exact .cons (kV_is h) (items_are t)
abbrev KT (H : Hp) : List (List Key × V) → List (List Key × Addr × Value) → Prop := Paired fun p q => p.1 = q.1 ∧ H q.2.1 = some (.tup (p.1.map kV)) ∧ RelV p.2 q.2.2
theorem KT.val {H : Hp} {kvs : List (List Key × V)} {xs : List (List Key × Addr × Value)} (r : KT H kvs xs) (k : List Key) : RelO (valV kvs k) ((atKey xs k).map (·.2)) := by
  induction r with
  | nil => exact True.intro
  | @cons p q ps qs h t ih =>
    obtain ⟨h1, _, h2⟩ := h
    by_cases e : p.1 = k
    · have e' : q.1 = k := h1.symm.trans e
      have b : atKey (q :: qs) k = some q.2 := by simp [atKey, List.find?_cons, e']
      rw [valV_pos e, b]; exact h2
    · have e' : ¬ q.1 = k := fun z => e (h1.trans z)
      have b : atKey (q :: qs) k = atKey qs k := by simp [atKey, List.find?_cons, e']
      rw [valV_neg e, b]; exact ih
theorem KT.repl {H : Hp} {kvs : List (List Key × V)} {xs : List (List Key × Addr × Value)} (r : KT H kvs xs) (k : List Key) {y : V} {u : Value} (ry : RelV y u) :
    KT H (kvs.map fun kv => if kv.1 = k then (kv.1, y) else kv) (xs.map (putAt k u)) := by
  induction r with
  | nil => exact .nil
  | @cons p q ps qs h t ih =>
    rw [List.map_cons, List.map_cons]
    refine .cons ?_ ih
    obtain ⟨h1, h2, h3⟩ := h
    unfold putAt
    by_cases e : p.1 = k
    · rw [if_pos e, if_pos (h1.symm.trans e)]; exact ⟨h1, h2, ry⟩
    · rw [if_neg e, if_neg (fun z => e (h1.trans z))]; exact ⟨h1, h2, h3⟩
theorem KT.put {H : Hp} {kvs : List (List Key × V)} {xs : List (List Key × Addr × Value)} (r : KT H kvs xs) (k : List Key) {b : Addr} {y : V} {u : Value} (hb : H b = some (.tup (k.map kV))) (ry : RelV y u) :
    KT H (putK kvs k y) (storedH xs k b u) := by
  have e : (kvs.any fun kv => decide (kv.1 = k)) = (atKey xs k).isSome := by
    rw [valV_any, (r.val k).isSome_eq, Option.isSome_map]
  unfold putK storedH
  rw [e]
  by_cases q : (atKey xs k).isSome = true
  · rw [if_pos q, if_pos q]; exact r.repl k ry
  · rw [if_neg q, if_neg q]; exact Paired.snoc r ⟨rfl, hb, ry⟩
theorem KT.keeps {H H' : Hp} {kvs : List (List Key × V)} {xs : List (List Key × Addr × Value)} (r : KT H kvs xs) (ht : ∀ b ys, H b = some (.tup ys) → H' b = some (.tup ys)) : KT H' kvs xs :=
  Paired.mapP r fun _ _ z => ⟨z.1, ht _ _ z.2.1, z.2.2⟩
section
variable {P : Program} {w : World} {H : Hp} {h : Heap} {a : Addr}
theorem rd_of {u : HO} (ok : HOk P w H h) (e : Rd H a u) : ObjOk P w H h a u := e.ok ok
theorem dk_rd {kvs : List (Key × V)} (ok : HOk P w H h) (e : Rd H a (.dK kvs)) : kvs.length ≤ sizeLine ∧ (a == sysModules) = false ∧ ∃ vs, KV kvs vs ∧ h.DictOf (mixKind P w) a vs :=
  show ObjOk P w H h a (.dK kvs) from rd_of ok e
theorem dk_of {kvs : List (Key × V)} (ok : HOk P w H h) (e : H a = some (.dK kvs)) : kvs.length ≤ sizeLine ∧ (a == sysModules) = false ∧ ∃ vs, KV kvs vs ∧ h.DictOf (mixKind P w) a vs := dk_rd ok (.inl e)
theorem key_of {ks : List Key} (ok : HOk P w H h) (e : H a = some (.tup (ks.map kV))) : (tupleKind (mixKind P w)).is h ks a := by
  obtain ⟨_, its, r, o, h1, h2, n, h3⟩ := (show ObjOk P w H h a (.tup (ks.map kV)) from ok a _ e)
  exact ⟨o, its.toArray, n, h1, h2, h3, by simpa using items_are r⟩
theorem dt_rd {kvs : List (List Key × V)} (ok : HOk P w H h) (e : Rd H a (.dT kvs)) : kvs.length ≤ sizeLine ∧ (a == sysModules) = false ∧
    ∃ xs, KT H kvs xs ∧ h.DictOfH (tupleKind (mixKind P w)) a xs := by
  obtain ⟨z, y, xs, r, o, es, ep, h1, h2, h3, h4, h5⟩ := (show ObjOk P w H h a (.dT kvs) from rd_of ok e)
  refine ⟨z, y, xs, r, o, es, ep, h1, h2, h3, h4, fun x hx => ?_, h5⟩
  have all : ∀ {l : List (List Key × V)} {m : List (List Key × Addr × Value)}, KT H l m → ∀ x ∈ m, (tupleKind (mixKind P w)).is h x.1 x.2.1 := by
    intro l m q
    induction q with
    | nil => intro x hx; exact nomatch hx
    | @cons p q ps qs hq t ih =>
      intro x hx
      rcases List.mem_cons.mp hx with e | hx
      · subst e
        exact key_of ok (by rw [← hq.1]; exact hq.2.1)
      · exact ih x hx
  exact all r x hx
theorem dt_of {kvs : List (List Key × V)} (ok : HOk P w H h) (e : H a = some (.dT kvs)) : kvs.length ≤ sizeLine ∧ (a == sysModules) = false ∧
    ∃ xs, KT H kvs xs ∧ h.DictOfH (tupleKind (mixKind P w)) a xs := dt_rd ok (.inl e)
end
def DGet (H : Hp) (a : Addr) (y : V) (r : Option V) : Prop :=
  (∃ kvs k, Rd H a (.dK kvs) ∧ y = kV k ∧ r = valV kvs k) ∨ ∃ kvs k b, Rd H a (.dT kvs) ∧ y = .ref b ∧ H b = some (.tup (k.map kV)) ∧ r = valV kvs k
def DPut (H : Hp) (a : Addr) (y v : V) (H' : Hp) : Prop :=
  (∃ kvs k, H a = some (.dK kvs) ∧ y = kV k ∧ kvs.length < sizeLine ∧ H' = upd H a (.dK (putK kvs k v))) ∨
  ∃ kvs k b, H a = some (.dT kvs) ∧ y = .ref b ∧ H b = some (.tup (k.map kV)) ∧ kvs.length < sizeLine ∧ H' = upd H a (.dT (putK kvs k v))
theorem DGet.t {H : Hp} {a b : Addr} {kvs : List (List Key × V)} {k : List Key} (e : H a = some (.dT kvs)) (eb : H b = some (.tup (k.map kV))) : DGet H a (.ref b) (valV kvs k) := .inr ⟨kvs, k, b, .inl e, rfl, eb, rfl⟩
theorem DPut.t {H : Hp} {a b : Addr} {kvs : List (List Key × V)} {k : List Key} {v : V} (e : H a = some (.dT kvs)) (eb : H b = some (.tup (k.map kV))) (hl : kvs.length < sizeLine) :
    DPut H a (.ref b) v (upd H a (.dT (putK kvs k v))) := .inr ⟨kvs, k, b, e, rfl, eb, hl, rfl⟩
section
variable {X : Cx} {pins : List (Addr × Obj)} {σ : St} {H : Hp} {s : Shared} {a : Addr} {y v : V} {u r : Value} {o : Option V} {A : Around} {E : Value → Shared → Prop}
theorem Inv.big (I : Inv X pins σ H s) : sysModules < s.heap.objs.size := by
  have h : mainGlobals < s.heap.objs.size := (I.mod.glob.keeps I.bk).lt
  exact Nat.lt_trans (by decide) h
theorem d_getItem {Q : Value → Shared → Prop} (hu : A.units + 1 < cLine) (I : Inv X pins σ H s) (g : DGet H a y (some v)) (ry : RelV y u) (h : ∀ w' s', Inv X pins σ H s' → RelV v w' → Q w' s') :
    wpAny (model X.prog X.w) A (getItem (.ref a) u) Q E s := by
  rcases g with ⟨kvs, k, e, ey, l⟩ | ⟨kvs, k, b, e, ey, eb, l⟩
  · subst ey
    obtain ⟨z, hd, vs, rel, dd⟩ := dk_rd I.hok e
    obtain ⟨w', hw, rw'⟩ := RelO.some_of (v := v) (o := valueAt vs k) (by rw [l]; exact rel.val k)
    exact wpAny_getItem_of (kV_is ry) dd.mapOf hw (h w' _ (I.tok _) rw')
  · subst ey
    cases (show u = Value.ref b from ry)
    obtain ⟨z, hd, xs, rel, dd⟩ := dt_rd I.hok e
    obtain ⟨w', hw, rw'⟩ := RelO.some_of (v := v) (o := (atKey xs k).map (·.2)) (by rw [l]; exact rel.val k)
    obtain ⟨p, hp, hp2⟩ := Option.map_eq_some_iff.mp hw
    refine wpAny_getItem_heap (tupleKind_room_in1 hu) (key_of I.hok eb) dd hp ?_
    rw [hp2]
    exact h w' _ (I.tok _) rw'
theorem d_in {Q : Value → Shared → Prop} (hu : A.units + 1 < cLine) (I : Inv X pins σ H s) (g : DGet H a y o) (ry : RelV y u) (h : ∀ s', Inv X pins σ H s' → Q (.bool o.isSome) s') :
    wpAny (model X.prog X.w) A (compareOp .In u (.ref a)) Q E s := by
  rcases g with ⟨kvs, k, e, ey, l⟩ | ⟨kvs, k, b, e, ey, eb, l⟩
  · subst ey
    obtain ⟨z, hd, vs, rel, dd⟩ := dk_rd I.hok e
    refine wpAny_in_of (kV_is ry) hd dd.mapOf ?_
    rw [← (rel.val k).isSome_eq, ← l]
    exact h _ (I.tok _)
  · subst ey
    cases (show u = Value.ref b from ry)
    obtain ⟨z, hd, xs, rel, dd⟩ := dt_rd I.hok e
    refine wpAny_in_heap (tupleKind_room_in1 hu) (key_of I.hok eb) hd dd ?_
    have q := (rel.val k).isSome_eq
    rw [Option.isSome_map] at q
    rw [← q, ← l]
    exact h _ (I.tok _)
theorem d_notIn {Q : Value → Shared → Prop} (hu : A.units + 1 < cLine) (I : Inv X pins σ H s) (g : DGet H a y o) (ry : RelV y u) (h : ∀ s', Inv X pins σ H s' → Q (.bool (!o.isSome)) s') :
    wpAny (model X.prog X.w) A (compareOp .NotIn u (.ref a)) Q E s := by
  rcases g with ⟨kvs, k, e, ey, l⟩ | ⟨kvs, k, b, e, ey, eb, l⟩
  · subst ey
    obtain ⟨z, hd, vs, rel, dd⟩ := dk_rd I.hok e
    refine wpAny_notIn_of (kV_is ry) hd dd.mapOf ?_
    rw [← (rel.val k).isSome_eq, ← l]
    exact h _ (I.tok _)
  · subst ey
    cases (show u = Value.ref b from ry)
    obtain ⟨z, hd, xs, rel, dd⟩ := dt_rd I.hok e
    refine wpAny_notIn_heap (tupleKind_room_in1 hu) (key_of I.hok eb) hd dd ?_
    have q := (rel.val k).isSome_eq
    rw [Option.isSome_map] at q
    rw [← q, ← l]
    exact h _ (I.tok _)
theorem d_write {h' : Heap} {t' : Nat} {ob : HO} (I : Inv X pins σ H s) (mu : Mut (H a)) (hs : Heap.SameBut a s.heap h') (he : ∃ q, h'.get? a = some q) (new : ObjOk X.prog X.w (upd H a ob) h' a ob) :
    Inv X pins σ (upd H a ob) { s with heap := h', toks := t' } :=
  I.write (x := a) (e := a) mu (.inl rfl) (fun b q hb z => (hs.2 b hb).trans z) he new
theorem dk_new {P : Program} {w : World} {H' : Hp} {h' : Heap} {kvs : List (Key × V)} {vs : List (Key × Value)} (z : kvs.length ≤ sizeLine) (hd : (a == sysModules) = false) (rel : KV kvs vs) (dd : h'.DictOf (mixKind P w) a vs) :
    ObjOk P w H' h' a (.dK kvs) := ⟨z, hd, vs, rel, dd⟩
theorem d_setItem {H' : Hp} {Q : Unit → Shared → Prop} (hu : A.units + 1 < cLine) (I : Inv X pins σ H s) (g : DPut H a y v H') (ry : RelV y u) (rv : RelV v r) (h : ∀ s', Inv X pins σ H' s' → Q () s') :
    wpAny (model X.prog X.w) A (setItem (.ref a) u r) Q E s := by
  rcases g with ⟨kvs, k, e, ey, l, eH⟩ | ⟨kvs, k, b, e, ey, eb, l, eH⟩
  · subst ey eH
    obtain ⟨z, hd, vs, rel, dd⟩ := dk_of I.hok e
    have hz : vs.length ≤ sizeLine := by rw [← rel.length]; exact z
    have hl : (putK kvs k v).length ≤ sizeLine := by have := length_putK kvs k v; omega
    refine wpAny_setItem_pairs (hsz := hz) (kV_is ry) dd fun h' dd' hs => h _ ?_
    have he : ∃ q, h'.get? a = some q := let ⟨q, _, _, hq, _⟩ := dd'; ⟨q, hq⟩
    exact d_write I (by rw [e]; exact True.intro) hs he (dk_new hl hd (rel.put k rv) dd')
  · subst ey eH
    cases (show u = Value.ref b from ry)
    obtain ⟨z, hd, xs, rel, dd⟩ := dt_of I.hok e
    have hz : xs.length ≤ sizeLine := by rw [← Paired.length rel]; exact z
    have hl : (putK kvs k v).length ≤ sizeLine := by have := length_putK kvs k v; omega
    refine wpAny_setItem_heap (hsz := hz) (tupleKind_room_in1 hu) (key_of I.hok eb) dd fun h' dd' hs => h _ ?_
    obtain ⟨q, es, ep, hq, h2, h3, h4, _, h5⟩ := dd'
    refine d_write I (by rw [e]; exact True.intro) hs ⟨q, hq⟩ ⟨hl, hd, _, (rel.put k eb rv).keeps fun c ys ec => ?_, q, es, ep, hq, h2, h3, h4, h5⟩
    rw [upd_ne (ne_of ec e (fun z => nomatch z))]
    exact ec
end
theorem dict_typeIs {X : Cx} {pins : List (Addr × Obj)} {σ : St} {H : Hp} {s : Shared} {a : Addr} {y : V} {o : Option V} (I : Inv X pins σ H s) (g : DGet H a y o) : s.TypeIs (.ref a) "dict" := by
  rcases g with ⟨kvs, k, e, _, _⟩ | ⟨kvs, k, b, e, _, _, _⟩
  · obtain ⟨_, _, vs, _, dd⟩ := dk_rd I.hok e
    exact dd.typeIs
  · obtain ⟨_, _, xs, _, dd⟩ := dt_rd I.hok e
    exact dd.typeIs
theorem dt_empty {P : Program} {w : World} {H : Hp} (h : Heap) (hb : sysModules < h.objs.size) : ObjOk P w H (h.push { cls := .type "dict", data := .dict #[] }) h.objs.size (.dT []) :=
  ⟨Nat.zero_le _, beq_eq_false_iff_ne.mpr (Ne.symm (Nat.ne_of_lt hb)), [], .nil, _, #[], 0, Heap.get?_push_size _ rfl, ⟨rfl, rfl, rfl⟩, rfl, rfl, List.nodup_nil⟩
def tDNewT : TE := fun _ H Q => ∀ p, H p = none → Q (.ref p) (upd H p (.dT []))
section
variable {X : Cx} {pos : Pos}
theorem pe_dnewT : PE X (.Dict [] [] pos) tDNewT := fun pins s σ H Q I h =>
  wpAny_Dict_empty ⟨.ref s.heap.objs.size, _, I.laid (a := s.heap.objs.size) (o := .dT []) (t' := s.toks) (fun _ _ q => Heap.get?_push_of_some _ q) (Nat.le_refl _) (dt_empty s.heap I.big), rfl, h _ (I.hok.fresh (Nat.le_refl _))⟩
end
structure M2 (X : Cx) (o : Expr) (m : Str) (apos : Pos) (e f : Expr) (cpos : Pos) : Prop where
  base : attributeBase o m X.env (eval o X.env) = eval o X.env
  few : ((backTo cpos (starEach [e, f] X.env)).all (fun x => !x.1) && (backToKw cpos (keywordEach [] X.env)).all (fun x => x.1.isSome)
    && decide (([e, f] : List Expr).length + ([] : List Keyword).length + (if ([] : List Keyword).isEmpty then 0 else 1) < 30)) = true
  line : (apos.endLine == cpos.line) = true
  trees : backTo cpos (starEach [e, f] X.env) = [(false, eval e X.env), (false, eval f X.env)]
def IsD (H : Hp) (a : Addr) : Prop := (∃ kvs, Rd H a (.dK kvs)) ∨ ∃ kvs, Rd H a (.dT kvs)
theorem isD_at {X : Cx} {pins : List (Addr × Obj)} {σ : St} {H : Hp} {s : Shared} {a : Addr} (I : Inv X pins σ H s) (d : IsD H a) :
    s.TypeIs (.ref a) "dict" ∧ (∀ b, Value.ref a = .ref b → ∃ ob, s.heap.get? b = some ob ∧ ob.dict = none) ∧ (a == sysModules) = false := by
  rcases d with ⟨kvs, e⟩ | ⟨kvs, e⟩
  · obtain ⟨_, hd, vs, _, dd⟩ := dk_rd I.hok e
    refine ⟨dd.typeIs, fun b q => ?_, hd⟩
    cases q
    obtain ⟨ob, _, _, h1, h2, _⟩ := dd
    exact ⟨ob, h1, h2.2.1⟩
  · obtain ⟨_, hd, xs, _, dd⟩ := dt_rd I.hok e
    refine ⟨dd.typeIs, fun b q => ?_, hd⟩
    cases q
    obtain ⟨ob, _, _, h1, h2, _⟩ := dd
    exact ⟨ob, h1, h2.2.1⟩
section
variable {X : Cx} {pins : List (Addr × Obj)} {σ : St} {H : Hp} {s : Shared} {a : Addr} {y d : V} {u r : Value} {o : Option V} {A : Around} {E : Value → Shared → Prop}
theorem d_get2 {Q : Value → Shared → Prop} (hu : A.units + 1 < cLine) (I : Inv X pins σ H s) (g : DGet H a y o) (ry : RelV y u) (rd : RelV d r) (h : ∀ w' s', Inv X pins σ H s' → RelV (o.getD d) w' → Q w' s') :
    wpAny (model X.prog X.w) A (call (.builtin "dict.get") [.ref a, u, r]) Q E s := by
  rcases g with ⟨kvs, k, e, ey, l⟩ | ⟨kvs, k, b, e, ey, eb, l⟩
  · subst ey
    obtain ⟨z, hd, vs, rel, dd⟩ := dk_rd I.hok e
    refine call_meetsIn PySem.F.slot_dict_get dd.typeIs PySem.F.entry_dict_get (PySem.F.args_dict_get_3 _ _ _) (meets_dict_get_default (mixKind X.prog X.w) a (kV_is ry) hd r) ⟨_, dd.mapOf, h _ _ (I.tok _) ?_⟩
    rw [l]
    exact (rel.val k).getD rd
  · subst ey
    cases (show u = Value.ref b from ry)
    obtain ⟨z, hd, xs, rel, dd⟩ := dt_rd I.hok e
    refine call_meetsIn PySem.F.slot_dict_get dd.typeIs PySem.F.entry_dict_get (PySem.F.args_dict_get_3 _ _ _) (meetsH_dict_get_default (tupleKind (mixKind X.prog X.w)) a b hd r) ⟨tupleKind_room_in1 hu, k, xs, key_of I.hok eb, dd, h _ _ (I.tok _) ?_⟩
    rw [l]
    exact (rel.val k).getD rd
end
def tDGet2 (td ty tx : TE) : TE := fun σ H Q => td σ H fun x H1 => ∃ a, x = .ref a ∧ IsD H1 a ∧ ty σ H1 fun y H2 => tx σ H2 fun z H3 => ∃ o, DGet H3 a y o ∧ Q (o.getD z) H3
section
variable {X : Cx} {o e f : Expr} {apos cpos : Pos} {td ty tx : TE}
theorem pe_dget2 (hu : X.A.units + 1 < cLine) (ho : PE X o td) (he : PE X e ty) (hf : PE X f tx) (m : M2 X o "get" apos e f cpos) : PE X (.Call (.Attribute o "get" apos) [e, f] [] cpos) (tDGet2 td ty tx) := by
  intro pins s σ H Q I h
  refine wpAny_Call_method m.base m.few m.line PySem.F.plainAttrs_dict PySem.F.slot_dict_get PySem.F.type_dict_get (thn (ho pins s σ H _ I h) fun u s1 ⟨x, H1, I1, rx, a, ex, d, q1⟩ => ?_)
  subst ex
  obtain rfl : u = Value.ref a := rx
  obtain ⟨t1, t2, _⟩ := isD_at I1 d
  refine ⟨t1, t2, ?_⟩
  rw [m.trees]
  refine Calls.callWith_builtin rfl (Calls.evalArgs_plain (Calls.spliced_cons (thn (he pins s1 σ H1 _ I1 q1) fun iv s2 ⟨y, H2, I2, ry, q2⟩ =>
    Calls.spliced_cons (thn (hf pins s2 σ H2 _ I2 q2) fun fv s3 ⟨z, H3, I3, rz, ov, g, q3⟩ => Calls.spliced_nil ?_))))
  exact d_get2 hu I3 g ry rz fun w' s4 I4 rw' => ⟨_, H3, I4, rw', q3⟩
end
end L2
namespace L2
open PySem PySem.Spec PyProof.Rows
end L2
set_option Elab.async false
set_option linter.all false
set_option maxRecDepth 100000
namespace L2
open PySem PySem.Spec PyProof.Rows
section
variable {X : Cx}
def rIxD : R2 := fun x y H Q => ∃ a v, x = .ref a ∧ DGet H a y (some v) ∧ Q v H
theorem ix_dict (hu : X.A.units + 60 < cLine) : IxR X rIxD := by
  intro value slice pins s σ H x y v u Q I rx ry h hs
  obtain ⟨a, z, rfl, g, q⟩ := h
  cases rx
  exact tail_any (ops := [.ref a, u]) (dict_typeIs I g) PySem.F.slot_dict_getitem.lookup (d_getItem (by omega) I g ry fun w' s3 I3 rw' => ⟨z, H, I3, rw', q⟩) hs
def rInDict (neg : Bool) : R2 := fun y x H Q => ∃ a o, x = .ref a ∧ DGet H a y o ∧ Q (.bl (if neg then !o.isSome else o.isSome)) H
theorem op_inDict (hu : X.A.units + 60 < cLine) : OpR X (compareOp .In) (rInDict false) := by
  intro pins s σ H y x u v Q I ry rx h
  obtain ⟨a, o, rfl, g, q⟩ := h
  cases rx
  exact d_in (by omega) I g ry fun s3 I3 => ⟨.bl o.isSome, H, I3, rfl, q⟩
theorem op_notInDict (hu : X.A.units + 60 < cLine) : OpR X (compareOp .NotIn) (rInDict true) := by
  intro pins s σ H y x u v Q I ry rx h
  obtain ⟨a, o, rfl, g, q⟩ := h
  cases rx
  exact d_notIn (by omega) I g ry fun s3 I3 => ⟨.bl (!o.isSome), H, I3, rfl, q⟩
def rSetD : V → V → V → Hp → (Hp → Prop) → Prop := fun o i v H Q => ∃ a H', o = .ref a ∧ DPut H a i v H' ∧ Q H'
theorem set_dict (hu : X.A.units + 60 < cLine) : PSet X rSetD := by
  intro pins s σ H o i v ov iv u Q I ro ri rv h
  obtain ⟨a, H', rfl, g, q⟩ := h
  cases ro
  exact d_setItem (by omega) I g ri rv fun s4 I4 => ⟨H', I4, q⟩
end
end L2
set_option Elab.async false
set_option linter.all false
set_option maxRecDepth 100000
namespace L2
open PySem PySem.Spec PyProof.Rows
section
variable {X : Cx} {pos : Pos} {k v : Expr} {tk tv : TE}
theorem r_dnewT : RE X (.Dict [] [] pos) tDNewT := ⟨pe_dnewT⟩
end
end L2
set_option Elab.async false
set_option linter.all false
set_option maxRecDepth 100000
namespace L2
open PySem PySem.Spec PyProof.Rows
structure Mth (P : Program) (w : World) (K : PySem.W.Frag) (mg : Str → Option Value) (base : Heap) (k : Nat) (C : Addr) (m : Str) (ps : List Str) (sp : Sp) : Prop where
  ex : ∃ f fd, Meth K C m f ∧ FnOk P w K mg base (CXE P w) k f fd ps sp ∧ Binds K fd ps []
  cl : Cls K C
section
variable {X : Cx} {k j : Nat} {ps : List Str} {sp : Sp} {E : XK} {m : Str} {pos apos : Pos} {o e : Expr} {es : List Expr} {ta : TE} {t : TA} {C : Addr}
theorem meth_eq {env : Env} {args : List Expr} (hbase : attributeBase o m env (eval o env) = eval o env) (hs : args.all notStar = true) (hlen : decide (args.length < 30) = true) (hline : (apos.endLine == pos.line) = true) :
    eval (.Call (.Attribute o m apos) args [] pos) env = (do
      let v ← eval o env
      standAt apos.atName
      let (g, before) ← holding [v] (getMethod v m (do return (← importBound o env).getD true))
      callWith pos g before (backTo pos (starEach args env)) (backToKw pos (keywordEach [] env))) := by
  have form : methodCallForm (args.length + ([] : List Keyword).length) (backTo pos (starEach args env)) (backToKw pos (keywordEach [] env)) = true := by
    unfold methodCallForm
    rw [few_of hs]
    have : decide (args.length + ([] : List Keyword).length + (if (backToKw pos (keywordEach [] env)).isEmpty then 0 else 1) < 30) = true := by
      have := of_decide_eq_true hlen
      exact decide_eq_true (by show args.length + 0 + 0 < 30; omega)
    rw [this]; rfl
  rw [arm_eval_Call, hbase]
  unfold methodCall calleeOf methodCallPos
  rw [form]
  simp only [hline, if_true, Bool.or_true, pure_bind]
theorem r_meth0 (D : Mth X.prog X.w X.K X.mg X.base k C m ps sp) (hr : Room j X.A) (hx : Passes (CXE X.prog X.w) X E) (ho : RE X o ta) (hk : k ≤ j := by decide)
    (hbase : attributeBase o m X.env (eval o X.env) = eval o X.env := by rfl) (hline : (apos.endLine == pos.line) = true := by rfl) : RE X (.Call (.Attribute o m apos) [] [] pos) (tMeth C m sp [] E ta tNil) := by
  obtain ⟨f, fd, M, F, hb⟩ := D.ex
  exact ⟨pe_meth0 ho.ok D.cl M F (hr.mono hk) hb .nil hx (ht := meth_eq hbase rfl rfl hline)⟩
variable {f : Expr} {td ty tx : TE}
theorem r_dget2 (hu : X.A.units + 60 < cLine) (ho : RE X o td) (he : RE X e ty) (hf : RE X f tx) (m : M2 X o "get" apos e f pos) : RE X (.Call (.Attribute o "get" apos) [e, f] [] pos) (tDGet2 td ty tx) := ⟨pe_dget2 (by omega) ho.ok he.ok hf.ok m⟩
end
section
variable {P : Program} {w : World}
theorem lenT_meets {κ : Type} [DecidableEq κ] (knd : HeapKind P w κ) (d : Addr) (lo : (d == sysModules) = false) :
    MeetsIn P w (Builtin.«dict.__len__» ⟨[.ref d], []⟩) (fun _ R s => ∃ xs, s.heap.DictOfH knd d xs ∧ ∀ t t', R (.ok (.ret (.int xs.length t))) { s with toks := t' }) :=
  .of_wp fun A R s hyp => by
    obtain ⟨xs, dd, q⟩ := hyp
    obtain ⟨ob, en, ep, g1, g2, g3, g4, g5⟩ := dd
    have n : en.size = xs.length := size_of_entries g4
    show wpAny _ _ (dictSize d >>= _) _ _ s
    unfold dictSize
    refine wpAny_bind (wpAny_bind (wpAny_dictEntries g1 g3 (wpAny_pure ?_)))
    show wpAny _ _ (Builtin.Dict.pendingCount d >>= _) _ _ s
    refine wpAny_bind (wpAny_pendingCount_other lo (wpAny_ret_mkInt ?_))
    rw [Nat.add_zero, n]
    exact q _ _
end
section
variable {X : Cx}
def rLenT : List V → Hp → VK → Prop := fun xs H Q => ∃ a kvs, xs = [.ref a] ∧ H a = some (.dT kvs) ∧ Q (.int kvs.length) H
theorem call_lenT : CallR X (.builtin "len") rLenT := by
  intro pins s σ H xs us Q I r h
  obtain ⟨a, kvs, rfl, e, q⟩ := h
  obtain ⟨u, rfl, ru⟩ := vals1 r
  cases ru
  obtain ⟨z, lo, ws, rel, dd⟩ := dt_of I.hok e
  have n : ws.length = kvs.length := (Paired.length rel).symm
  have small' : ((kvs.length : Nat) : Int) < 2 ^ 63 := by rw [sizeLine_eq] at z; omega
  refine Calls.call_function_entry kind_len plain_len entry_len (args_len1 _) ?_
  unfold Builtin.«len»
  refine wpAny_bind (m := oneArg "len" _) (wpAny_pure (wpAny_bind (m := callSpecial? (.ref a) (Str.ofString "__len__")) ?_))
  refine wpAny_callSpecial?_slot (name := Str.ofString "__len__") dd.typeIs PySem.F.slot_dict_len (call_meetsIn PySem.F.slot_dict_len dd.typeIs PySem.F.entry_dict_len (PySem.F.args_dict_len_1 _) (lenT_meets _ a lo) ⟨ws, dd, fun t t' => ?_⟩)
  rw [n]
  refine wpAny_bind (wpAny_holding (wpAny_pure (wpAny_bind (wpAny_letGo ?_))))
  show wpAny _ _ (if ((kvs.length : Nat) : Int) < 0 then _ else _) _ _ _
  rw [if_neg (by omega)]
  show wpAny _ _ (if ((kvs.length : Nat) : Int) ≥ 2 ^ 63 then _ else _) _ _ _
  rw [if_neg (by omega)]
  exact wpAny_bind (wpAny_mkInt (wpAny_pure ⟨_, rfl, .int kvs.length, H, I.tok _, ⟨_, rfl⟩, q⟩))
def rIsiO (K : PySem.W.Frag) : List V → Hp → VK → Prop := fun xs H Q => ∃ a C dx fs cv c, xs = [.ref a, c] ∧ clsV c = some cv ∧ H a = some (.ins C dx fs) ∧ PySem.W.kitOne K (.ref C) cv = some true ∧ Q (.bl true) H
theorem call_isiO : CallR X (.builtin "isinstance") (rIsiO X.K) := by
  intro pins s σ H xs us Q I r h
  obtain ⟨a, C, dx, fs, cv, c, rfl, hc, e, hk, q⟩ := h
  obtain ⟨u, u', rfl, ru, rc⟩ := vals2 r
  have e' := clsV_is hc rc
  subst e'
  cases ru
  obtain ⟨mA, O, _⟩ := ins_get I.hok e
  refine call_isinstance (S := fun _ R s' => (X.K.In s'.heap ∧ (fun h : Heap => ∃ o, h.get? a = some o ∧ o.cls = .ref C) s'.heap) ∧ ∀ tk, R (.ok (.ret (.bool true))) { s' with toks := tk })
    (fun prog w A R s' hs => isinstance_outer (yes_ans (K := X.K) (t := .ref C) (Hp' := fun h => ∃ o, h.get? a = some o ∧ o.cls = .ref C) (fun M h p => ?_) hk 0 _ prog w A R s' hs) (by intro z; cases z)) ⟨⟨I.kIn, ⟨_, O.obj, rfl⟩⟩, fun tk => ⟨.bl true, H, I.tok tk, rfl, q⟩⟩
  obtain ⟨o, h1, h2⟩ := p
  exact h2 ▸ (PySem.W.Looks.ld h1).andThen .now
theorem k_isiO {K : PySem.W.Frag} (hK : X.K = K := by rfl) : CallR X (.builtin "isinstance") (rIsiO K) := by subst hK; exact call_isiO
def rStrG : List V → Hp → VK → Prop := fun xs H Q => (∃ i : Int, xs = [.int i] ∧ i.natAbs.log2 < 1920 ∧ Q (.str (toString i)) H) ∨ ∃ z : Str, xs = [.str z] ∧ Q (.str z) H
theorem call_strG : CallR X (.type "str") rStrG := by
  intro pins s σ H xs us Q I r h
  rcases h with h | ⟨z, rfl, q⟩
  · exact call_str_int pins s σ H xs us Q I r h
  · obtain ⟨u, rfl, t, rfl⟩ := vals1 r
    exact PySem.P.str_of_str ⟨.str _, H, I, ⟨_, rfl⟩, q⟩
def rLenE (K : PySem.W.Frag) : List V → Hp → VK → Prop := fun xs H Q => rLenG K xs H Q ∨ rLenT xs H Q
theorem k_lenE {K : PySem.W.Frag} (hK : X.K = K := by rfl) : CallR X (.builtin "len") (rLenE K) := by subst hK; exact CallR.or k_len call_lenT
end
theorem miss_of {K : PySem.W.Frag} {C C' : Addr} (c : ErrCls K C) (e : PySem.W.kitOne K (.ref C) (.ref C') = some false) : C ≠ C' ∧ ErrCls K C ∧ excMiss K C C' = true := by
  unfold PySem.W.kitOne at e
  by_cases q : (Value.ref C == Value.ref C') = true
  · rw [if_pos q] at e; cases e
  rw [if_neg q] at e
  refine ⟨fun z => q (by rw [z]; exact beq_self_eq_true _), c, ?_⟩
  have hx := c.ex
  unfold PySem.W.excIn at hx
  split at hx
  · rename_i dd cd sl ho
    have e2 : PySem.W.mroIn K C (.ref C') = some false := by
      have e' : (if ((PySem.W.clsIn K C').isSome && PySem.W.typeIn K (.ref C') == some (.type "type")) = true then PySem.W.mroIn K C (.ref C') else none) = some false := e
      split at e'
      · exact e'
      · cases e'
    unfold PySem.W.mroIn PySem.W.clsIn at e2
    rw [ho] at e2
    unfold excMiss
    rw [ho]
    have e3 : (if cd.mro.isEmpty then none else some (cd.mro.contains (.ref C'))) = some false := e2
    split at e3
    · cases e3
    · injection e3 with e3
      show (!cd.mro.contains (.ref C')) = true
      rw [e3]; rfl
  · cases hx
def Tups (H H' : Hp) : Prop := ∀ b xs, H b = some (.tup xs) → H' b = some (.tup xs)
theorem Tups.put {H : Hp} {x : Addr} {o u : HO} (hx : H x = some o) (no : ∀ xs, o ≠ .tup xs) : Tups H (upd H x u) := fun b xs e => by
  rw [upd_ne (fun z => by rw [z, hx] at e; exact no xs (Option.some.inj e))]; exact e
section
variable {K : PySem.W.Frag} {H H' : Hp}
theorem Tups.cell {v : V} {x : Cell} (s : Tups H H') (h : Den K H v (cellD x)) : Den K H' v (cellD x) := by
  obtain ⟨a, rfl, _, ht⟩ := cell_ref h
  exact .tup (s _ _ ht) (.cons (.int _) (.cons (.int _) .nil))
theorem Tups.cells (s : Tups H H') : ∀ {vs : List V} {cs : List Cell}, Dens K H vs (cs.map cellD) → Dens K H' vs (cs.map cellD)
  | [], [], _ => .nil
  | v :: vs, c :: cs, .cons h t => .cons (s.cell h) (s.cells t)
end
def keyC (c : Cell) : List Key := [.inl c.1, .inl c.2]
def fGame (f h d : Addr) (b : Bool) : List (Str × V) := putF "lost" (.bl b) (putF "figures" (.ref d) (putF "hidden" (.ref h) (putF "field" (.ref f) [])))
theorem g_lost (f h d : Addr) (b : Bool) : (fGame f h d b).lookup ("lost" : Str) = some (.bl b) := by
  unfold fGame; rw [lookup_putF, if_pos rfl]
theorem g_figures (f h d : Addr) (b : Bool) : (fGame f h d b).lookup ("figures" : Str) = some (.ref d) := by
  unfold fGame; rw [lookup_putF, if_neg (by decide +kernel), lookup_putF, if_pos rfl]
theorem g_hidden (f h d : Addr) (b : Bool) : (fGame f h d b).lookup ("hidden" : Str) = some (.ref h) := by
  unfold fGame; rw [lookup_putF, if_neg (by decide +kernel), lookup_putF, if_neg (by decide +kernel), lookup_putF, if_pos rfl]
theorem g_field (f h d : Addr) (b : Bool) : (fGame f h d b).lookup ("field" : Str) = some (.ref f) := by
  unfold fGame; rw [lookup_putF, if_neg (by decide +kernel), lookup_putF, if_neg (by decide +kernel), lookup_putF, if_neg (by decide +kernel), lookup_putF, if_pos rfl]
theorem g_none (f h d : Addr) (b : Bool) {m : Str} (h1 : m ≠ "lost") (h2 : m ≠ "figures") (h3 : m ≠ "hidden") (h4 : m ≠ "field") : (fGame f h d b).lookup m = none := by
  unfold fGame; rw [lookup_putF, if_neg h1, lookup_putF, if_neg h2, lookup_putF, if_neg h3, lookup_putF, if_neg h4]; rfl
def figsL (h w : Int) (st kn : List Cell) : List (List Key × V) := kn.map fun c => (keyC c, V.int (figN h w st c))
theorem keyC_inj {a b : Cell} (e : keyC a = keyC b) : a = b := by
  unfold keyC at e
  injection e with e1 e2
  injection e2 with e2 _
  injection e1 with e1
  injection e2 with e2
  exact Prod.ext e1 e2
theorem figs_val (h w : Int) (st : List Cell) (c : Cell) : ∀ kn : List Cell, valV (figsL h w st kn) (keyC c) = if c ∈ kn then some (.int (figN h w st c)) else none
  | [] => rfl
  | a :: kn => by
    show valV ((keyC a, V.int (figN h w st a)) :: figsL h w st kn) (keyC c) = _
    by_cases e : a = c
    · subst e
      rw [valV_pos rfl, if_pos List.mem_cons_self]
    · rw [valV_neg (fun z => e (keyC_inj z)), figs_val h w st c kn]
      by_cases m : c ∈ kn
      · rw [if_pos m, if_pos (List.mem_cons_of_mem _ m)]
      · rw [if_neg m, if_neg (fun z => (List.mem_cons.mp z).elim (fun q => e q.symm) m)]
def blankL (h w : Nat) : List Str := shownL h w [] []
theorem code_shown {h w : Nat} {st kn : List Cell} {r c : Nat} (hr : r < h) (hc : c < w) : codeAt (shownL h w st kn) (r, c) = sgnN h w st kn ((r : Int), (c : Int)) := by
  unfold codeAt shownL
  have e : (((List.range h).map fun r : Nat => rowN h w st kn (r : Int) w).getD r Str.empty) = rowN h w st kn (r : Int) w := by
    rw [List.getD_eq_getElem?_getD, List.getElem?_map, List.getElem?_range hr]; rfl
  show (((List.range h).map fun r : Nat => rowN h w st kn (r : Int) w).getD r Str.empty).cps.getD c 0 = _
  rw [e]
  unfold rowN
  simp [Array.getD, hc]
theorem closed_shown {h w : Nat} {st kn : List Cell} {x : Cell} : closedB (shownL h w st kn) w x = (decide (inF h w x) && !decide (x ∈ kn)) := by
  have ll : (shownL h w st kn).length = h := by unfold shownL; rw [List.length_map, List.length_range]
  unfold closedB
  rw [ll]
  by_cases hi : inF h w x
  · obtain ⟨⟨a1, a2⟩, a3, a4⟩ := id hi
    have e1 : x = (((x.1.toNat : Nat) : Int), ((x.2.toNat : Nat) : Int)) := Prod.ext (by show x.1 = _; omega) (by show x.2 = _; omega)
    rw [decide_eq_true hi, Bool.true_and, Bool.true_and, code_shown (by omega) (by omega), ← e1]
    unfold sgnN
    by_cases hk : x ∈ kn
    · rw [if_pos hk, decide_eq_true hk]
      exact decide_eq_false (by omega)
    · rw [if_neg hk, decide_eq_false hk]; rfl
  · rw [decide_eq_false hi, Bool.false_and, Bool.false_and]
structure GameAt (K : PySem.W.Frag) (C CV : Addr) (H : Hp) (g : Addr) (h w : Nat) (st kn : List Cell) (lost : Bool) (f hd d : Addr) : Prop where
  ob : ∃ dx, H g = some (.ins C dx (fGame f hd d lost))
  fl : ViewAt CV H f (blankL h w) w
  hs : Ls K H hd (st.map cellD)
  dc : H d = some (.dT (figsL h w st kn))
theorem GameAt.mono {K : PySem.W.Frag} {C CV : Addr} {H H' : Hp} {g : Addr} {h w : Nat} {st kn : List Cell} {lost : Bool} {f hd d : Addr} (G : GameAt K C CV H g h w st kn lost f hd d) (s : Same H H') : GameAt K C CV H' g h w st kn lost f hd d :=
  ⟨let ⟨dx, e⟩ := G.ob; ⟨dx, s _ _ e⟩, G.fl.mono s, G.hs.mono s, s _ _ G.dc⟩
end L2
set_option Elab.async false
set_option linter.all false
set_option maxRecDepth 100000
namespace L2
open PySem PySem.Spec PyProof.Rows
def compOkP (scope outer : Scope) (N : List Str) (x z : Str) : Bool :=
  (scope.kind == .function) && scope.names.all (fun y => !(y.2 == .cell)) && scope.names.all (fun y => !(y.2 == .local) || (y.1 == x || (y.1 == z || y.1 == ".0"))) &&
    scope.names.all (fun y => !(y.2 == .local) || scope.names.lookup y.1 == some .local) && (scope.names.lookup x == some .local) && (scope.names.lookup z == some .local) &&
    scope.names.all (fun y => !(y.2 == .free) || (outer.names.lookup y.1 == some .cell || outer.names.lookup y.1 == some .free)) &&
    !(N.contains ".0") && (scope.names.lookup (x ++ "'") == none) && (scope.names.lookup (z ++ "'") == none) && decide (x :: z :: N.map fun y => if y = x ∨ y = z then y ++ "'" else y).Nodup
def compNP (N : List Str) (x z : Str) : List Str := x :: z :: N.map fun y => if y = x ∨ y = z then y ++ "'" else y
structure CompOkP (scope outer : Scope) (N : List Str) (x z : Str) : Prop where
  kind : scope.kind = .function
  nocell : ∀ y ∈ scope.names, y.2 ≠ .cell
  loc : ∀ y ∈ scope.names, y.2 = .local → y.1 = x ∨ y.1 = z ∨ y.1 = ".0"
  names : ∀ y ∈ scope.names, y.2 = .local → scope.names.lookup y.1 = some .local
  own : scope.names.lookup x = some .local
  own2 : scope.names.lookup z = some .local
  free : ∀ y ∈ scope.names, y.2 = .free → outer.names.lookup y.1 = some .cell ∨ outer.names.lookup y.1 = some .free
  dot : (".0" : Str) ∉ N
  prime : ∀ y, y = x ∨ y = z → scope.names.lookup (y ++ "'") = none
  nd : (compNP N x z).Nodup
theorem compOkP_iff {scope outer : Scope} {N : List Str} {x z : Str} (h : compOkP scope outer N x z = true) : CompOkP scope outer N x z := by
  unfold compOkP at h
  simp only [Bool.and_eq_true, List.all_eq_true, Bool.or_eq_true, Bool.not_eq_true', beq_iff_eq, beq_eq_false_iff_ne, decide_eq_true_eq] at h
  obtain ⟨⟨⟨⟨⟨⟨⟨⟨⟨⟨h1, h2⟩, h3⟩, h4⟩, h5⟩, h5'⟩, h6⟩, h7⟩, h8⟩, h8'⟩, h9⟩ := h
  refine ⟨h1, h2, fun y hy e => (h3 y hy).resolve_left (fun q => q e), fun y hy e => (h4 y hy).resolve_left (fun q => q e), h5, h5', fun y hy e => (h6 y hy).resolve_left (fun q => q e), ?_, fun y hy => ?_, h9⟩
  · intro q
    have : N.contains ".0" = true := List.contains_iff_mem.mpr q
    rw [this] at h7; cases h7
  · rcases hy with rfl | rfl
    · exact h8
    · exact h8'
section
variable {X : Cx}
def cxCompP (X : Cx) (x z : Str) (scope : Scope) (s : Shared) (H : Hp) (ex : List Addr) : Cx := { cxComp X x scope s H ex with N := compNP X.N x z }
def CompWP (J : It) (g : TG) (tc : TT) (te : TE) (σ : St) (fin : List V → Hp → Prop) (W : Nat → Nat → List V → Hp → Prop) : Prop :=
  ∀ i m ys H, W i m ys H → ys.length ≤ sizeLine ∧ ((J.stop i H ∧ fin ys H) ∨
    (J.go i H ∧ ∀ a b v H', J.yld i H v H' → g v (a :: b :: σ) H' fun σ2 H2 => ∃ a' b', σ2 = a' :: b' :: σ ∧ tc σ2 H2 fun ok H3 => if ok = true then te σ2 H3 fun y H4 => ∃ m', m' < m ∧ W (i + 1) m' (ys ++ [y]) H4 else ∃ m', m' < m ∧ W (i + 1) m' ys H3))
theorem compNP_get {N : List Str} {x z y : Str} {i : Nat} (h : (compNP N x z)[i + 2]? = some y) : (N[i]? = some y ∧ y ≠ x ∧ y ≠ z) ∨ y = x ++ "'" ∨ y = z ++ "'" := by
  unfold compNP at h
  rw [List.getElem?_cons_succ, List.getElem?_cons_succ, List.getElem?_map] at h
  cases e : N[i]? with
  | none => rw [e] at h; cases h
  | some q =>
    rw [e] at h
    have h' : (if q = x ∨ q = z then q ++ "'" else q) = y := by simpa using h
    by_cases hz : q = x ∨ q = z
    · rw [if_pos hz] at h'
      rcases hz with rfl | rfl
      · exact .inr (.inl h'.symm)
      · exact .inr (.inr h'.symm)
    · rw [if_neg hz] at h'
      subst h'
      exact .inl ⟨rfl, fun w => hz (.inl w), fun w => hz (.inr w)⟩
theorem comp_startP {x z : Str} {scope : Scope} {pins : List (Addr × Obj)} {σ : St} {H : Hp} {s : Shared} {h₁ : Heap} {ex : List Addr} (ok : CompOkP scope X.env.scope X.N x z) (hc : X.calm = true) (I : Inv X pins σ H s)
    (hns : h₁.Ns s.heap.objs.size fun _ => none) (hk : ∀ b o, s.heap.get? b = some o → h₁.get? b = some o)
    (hex : ∀ b ∈ ex, b < s.heap.objs.size ∧ b ≠ X.env.locals ∧ b ∉ X.fs ∧ H b = none ∧ (b ∈ X.ex ∨ X.s₀.heap.objs.size ≤ b) ∧ (∀ y c, X.env.cells.lookup y = some c → c ≠ b)) {tk : Nat} :
    Inv (cxCompP X x z scope s H ex) [] (none :: none :: σ) H { s with heap := h₁, toks := tk } := by
  have hfree : ∀ y ∈ scope.names, y.2 = .free → ∃ c, X.env.cells.lookup y.1 = some c := fun y hy e => I.ok.has y.1 (ok.free y hy e)
  have cl : ∀ y c, (closL scope.names X.env.cells []).lookup y = some c → X.env.cells.lookup y = some c := fun y c e => closL_lookup scope.names hfree (fun _ _ z => by simp at z) e
  have clt : ∀ y c, X.env.cells.lookup y = some c → c < s.heap.objs.size := fun y c e => by
    obtain ⟨v, q⟩ := I.cell y c e
    exact q.lt
  have kindL : ∀ y, (compEnvC scope (closL scope.names X.env.cells []) s.heap.objs.size X.env).kindOf y = (scope.names.lookup y).map fun k => if (k == NameKind.free && X.env.scope.kind == .function && X.env.kindOf y == some .cell) then NameKind.cell else k := fun y => relabel_lookup scope.names y
  have freeOf : ∀ y, (∃ k, (compEnvC scope (closL scope.names X.env.cells []) s.heap.objs.size X.env).kindOf y = some k ∧ (k = .cell ∨ k = .free)) → (y, NameKind.free) ∈ scope.names := fun y ⟨k, e, hk⟩ => by
    rw [kindL] at e
    cases q : scope.names.lookup y with
    | none => rw [q] at e; cases e
    | some k' =>
      have mem := lookup_mem q
      by_cases hf : k' = .free
      · subst hf; exact mem
      · rw [q] at e
        have hb : (k' == NameKind.free) = false := by simpa using hf
        simp only [Option.map_some, hb, Bool.false_and, Bool.false_eq_true, if_false, Option.some.injEq] at e
        subst e
        rcases hk with z | z
        · exact absurd z (ok.nocell _ mem)
        · exact absurd z hf
  have stackFr : ∀ b ∈ frs X.stack, b = X.env.locals ∨ b ∈ X.fs := fun b hb => List.mem_cons.mp (I.stkSub b hb)
  refine ⟨⟨I.ok.mod, ?_, I.ok.glob, I.ok.blt, Nat.le_refl _, fun y z c e1 e2 => ?_, fun y hy => ?_, fun y c z _ => ?_, fun _ => I.ok.hd hc, I.ok.frames, .inl rfl, fun b hb => ⟨?_, fun y c e => ?_⟩, fun b o e => ?_, ?_, fun b o e hb => ?_, fun b hb hf => ?_, ?_, fun b hb => ?_⟩,
    rfl, I.bare, Un.kept hk, ⟨_, hns, fun i y v e1 e2 e3 => ?_⟩, fun y c e => ?_, I.hok.fresh (Nat.le_refl _), fun y c e => I.freeC y c (cl y c e), fun p hp => ?_, I.hok.kept hk, ?_⟩
  · exact ok.kind
  · exact I.ok.inj y z c (cl y c e1) (cl z c e2)
  · have hm : (y, NameKind.free) ∈ scope.names := by
      rcases hy with z | z
      · exact freeOf y ⟨_, z, .inl rfl⟩
      · exact freeOf y ⟨_, z, .inr rfl⟩
    exact closL_has scope.names (.inl hm)
  · exact absurd (show false = true from z) (by decide)
  · exact Nat.ne_of_lt (hex b hb).1
  · exact (hex b hb).2.2.2.2.2 y c (cl y c e)
  · obtain ⟨e1, e2⟩ := I.bs b o e
    exact ⟨e1, e2⟩
  · exact Nat.le_trans I.ok.bsz I.sz
  · rcases (hex b hb).2.2.2.2.1 with z | z
    · exact I.ok.noex b o e z
    · exact absurd (Nat.lt_of_lt_of_le (Heap.lt_size (I.ok.bs b o e).1) z) (Nat.lt_irrefl _)
  · rcases stackFr b hf with z | z
    · exact (hex b hb).2.1 z
    · exact (hex b hb).2.2.1 z
  · exact I.stack
  · exact I.stkFree b hb
  · cases i with
    | zero =>
      have : (none :: none :: σ)[0]? = some (some v) := e2
      simp at this
    | succ i => cases i with
    | zero =>
      have : (none :: none :: σ)[1]? = some (some v) := e2
      simp at this
    | succ i =>
      have e2' : σ[i]? = some (some v) := by simpa using e2
      have vis : Vis (relabel scope X.env) y := e3
      rcases compNP_get e1 with ⟨eN, hyx, hyz⟩ | hp
      ·
        have kf : (y, NameKind.free) ∈ scope.names := by
          have k3 : ∃ k, (compEnvC scope (closL scope.names X.env.cells []) s.heap.objs.size X.env).kindOf y = some k ∧ (k = .local ∨ k = .cell ∨ k = .free) := by
            rcases vis with z | z | z
            · exact ⟨_, z, .inl rfl⟩
            · exact ⟨_, z, .inr (.inl rfl)⟩
            · exact ⟨_, z, .inr (.inr rfl)⟩
          obtain ⟨k, e, hk3⟩ := k3
          rcases hk3 with hl | hk3
          · subst hl
            have e' := e
            rw [kindL] at e'
            cases q : scope.names.lookup y with
            | none => rw [q] at e'; cases e'
            | some k' =>
              have mem := lookup_mem q
              rw [q] at e'
              have hk' : k' = .local := by
                by_cases hcnd : (k' == NameKind.free && X.env.scope.kind == .function && X.env.kindOf y == some .cell) = true
                · simp only [Option.map_some, hcnd, if_true, Option.some.injEq] at e'
                  cases e'
                · simp only [Option.map_some, hcnd, Bool.false_eq_true, if_false, Option.some.injEq] at e'
                  exact e'
              subst hk'
              rcases ok.loc _ mem rfl with z | z | z
              · exact absurd z hyx
              · exact absurd z hyz
              · have : y = ".0" := z
                subst this
                exact absurd (List.mem_of_getElem? eN) ok.dot
          · exact freeOf y ⟨k, e, hk3⟩
        have hout := ok.free _ kf rfl
        have visO : Vis X.env.scope y := by
          rcases hout with z | z
          · exact .inr (.inl z)
          · exact .inr (.inr z)
        obtain ⟨m, hn, hl⟩ := I.loc
        obtain ⟨u, ru, lk⟩ := hl i y v eN e2' visO
        refine ⟨u, ru, ?_⟩
        rcases lk with ⟨lk, _⟩ | ⟨_, c, ec, hcell⟩
        · have lk' : X.env.scope.names.lookup y = some .local := lk
          rcases hout with z | z <;> (have z' : X.env.scope.names.lookup y = _ := z; rw [lk'] at z'; cases z')
        · obtain ⟨c', ec'⟩ := closL_has (cells := X.env.cells) (acc := []) scope.names (.inl kf)
          have : c' = c := by
            have := cl y c' ec'
            rw [ec] at this; cases this; rfl
          subst this
          have kk : (compEnvC scope (closL scope.names X.env.cells []) s.heap.objs.size X.env).kindOf y = some .cell ∨ (compEnvC scope (closL scope.names X.env.cells []) s.heap.objs.size X.env).kindOf y = some .free := by
            rcases vis with z | z | z
            ·
              have z' : (compEnvC scope (closL scope.names X.env.cells []) s.heap.objs.size X.env).kindOf y = some .local := z
              rw [kindL] at z'
              cases q : scope.names.lookup y with
              | none => rw [q] at z'; cases z'
              | some k' =>
                have mem := lookup_mem q
                rw [q] at z'
                have hk' : k' = .local := by
                  by_cases hcnd : (k' == NameKind.free && X.env.scope.kind == .function && X.env.kindOf y == some .cell) = true
                  · simp only [Option.map_some, hcnd, if_true, Option.some.injEq] at z'
                    cases z'
                  · simp only [Option.map_some, hcnd, Bool.false_eq_true, if_false, Option.some.injEq] at z'
                    exact z'
                subst hk'
                rcases ok.loc _ mem rfl with zz | zz | zz
                · exact absurd zz hyx
                · exact absurd zz hyz
                · have : y = ".0" := zz
                  subst this
                  exact absurd (List.mem_of_getElem? eN) ok.dot
            · exact .inl z
            · exact .inr z
          refine .inr ⟨kk, c', ec', ?_⟩
          obtain ⟨oc, hoc, hd⟩ := hcell
          exact ⟨oc, hk _ _ hoc, hd⟩
      · exfalso
        have hp' : ∃ q, (q = x ∨ q = z) ∧ y = q ++ "'" := by
          rcases hp with e | e
          · exact ⟨x, .inl rfl, e⟩
          · exact ⟨z, .inr rfl, e⟩
        obtain ⟨q, hq, rfl⟩ := hp'
        have kn : (compEnvC scope (closL scope.names X.env.cells []) s.heap.objs.size X.env).kindOf (q ++ "'") = none := by rw [kindL, ok.prime q hq]; rfl
        rcases vis with z | z | z
        · have z' : (compEnvC scope (closL scope.names X.env.cells []) s.heap.objs.size X.env).kindOf (q ++ "'") = some .local := z
          rw [kn] at z'; cases z'
        · have z' : (compEnvC scope (closL scope.names X.env.cells []) s.heap.objs.size X.env).kindOf (q ++ "'") = some .cell := z
          rw [kn] at z'; cases z'
        · have z' : (compEnvC scope (closL scope.names X.env.cells []) s.heap.objs.size X.env).kindOf (q ++ "'") = some .free := z
          rw [kn] at z'; cases z'
  · obtain ⟨v, oc, hoc, hd⟩ := I.cell y c (cl y c e)
    exact ⟨v, oc, hk _ _ hoc, hd⟩
  · exact absurd (show p ∈ ([] : List (Addr × Obj)) from hp) (by simp)
  · show (none :: none :: σ).length = (compNP X.N x z).length
    unfold compNP
    rw [List.length_cons, List.length_cons, List.length_cons, List.length_cons, List.length_map, I.len]
theorem comp_loopP {x z : Str} {tg : Expr} {pos : Pos} {g : TG} {scope : Scope} {elt iter : Expr} {ifs : List Expr} {tc : TT} {te : TE} {pins : List (Addr × Obj)} {σ : St} {H₂ : Hp} {s₃ : Shared} {h₁ : Heap} {tk : Nat} {it D : Addr} {fp : List Addr} {tn : Nat → Heap → Prop} {J : It} {fin : List V → Hp → Prop}
    {W : Nat → Nat → List V → Hp → Prop} {RR : Value → Addr → Result → Shared → Prop}
    (ok : CompOkP scope X.env.scope X.N x z) (hc : X.calm = true) (hg : ∀ s H ex, PG (cxCompP X x z scope s H ex) tg g) (hif : ∀ s H ex, PIfs (cxCompP X x z scope s H ex) ifs tc) (he : ∀ s H ex, PE (cxCompP X x z scope s H ex) elt te)
    (I3 : Inv X pins σ H₂ s₃) (T : Turn X.prog X.w X.K tg J fp it tn) (st : tn 0 s₃.heap) (f2 : ∀ b ∈ fp, FpOk X pins H₂ b) (w0 : ∃ m, W 0 m [] H₂) (hW : CompWP J g tc te σ fin W)
    (hDfresh : H₂ D = none) (fD : FpOk X pins H₂ D) (h0D : X.s₀.heap.objs.size ≤ D) (hobjD : s₃.heap.get? D = some { cls := .type "list", dict := none, data := .seq ([] : List Value).toArray }) (Dfp : D ∉ fp)
    (hns₁ : h₁.Ns s₃.heap.objs.size fun _ => none) (keep31 : ∀ b o, s₃.heap.get? b = some o → h₁.get? b = some o)
    (hRR : ∀ D C ys H' s', H' D = none → fin ys H' → Inv X pins σ (upd H' D (.lst ys)) s' → FpOk X pins (upd H' D (.lst ys)) C → (∃ m, s'.heap.Ns C m) → RR (.ref D) C (.ok .next) s') :
    codeAny (model X.prog X.w) X.A (.compLoop (.ListComp elt [⟨tg, iter, ifs, 0⟩] scope pos) 0 (.ref it) (.ref D) (compEnvC scope (closL scope.names X.env.cells []) s₃.heap.objs.size X.env)) (RR (.ref D) s₃.heap.objs.size) { s₃ with heap := h₁, toks := tk } := by
  have hfpex : ∀ b ∈ fp, ∃ o, s₃.heap.get? b = some o ∧ ∀ v, o.data ≠ .cell v := T.obj 0 s₃.heap st
  have hex : ∀ b ∈ D :: fp, b < s₃.heap.objs.size ∧ b ≠ X.env.locals ∧ b ∉ X.fs ∧ H₂ b = none ∧ (b ∈ X.ex ∨ X.s₀.heap.objs.size ≤ b) ∧ (∀ y c, X.env.cells.lookup y = some c → c ≠ b) := fun b hb => by
    rcases List.mem_cons.mp hb with e | hb
    · subst e
      obtain ⟨g0, g1, g2, g3, g4, g5⟩ := fD
      exact ⟨Heap.lt_size hobjD, g1, g2, g0, g3, g4⟩
    · obtain ⟨g0, g1, g2, g3, g4, g5⟩ := f2 b hb
      obtain ⟨o, eo, _⟩ := hfpex b hb
      exact ⟨Heap.lt_size eo, g1, g2, g0, g3, g4⟩
  have I4 := comp_startP (ex := D :: fp) (tk := tk) ok hc I3 hns₁ keep31 hex
  generalize hY : cxCompP X x z scope s₃ H₂ (D :: fp) = Y at I4
  have Yprog : Y.prog = X.prog := by rw [← hY]; rfl
  have Yw : Y.w = X.w := by rw [← hY]; rfl
  have YK : Y.K = X.K := by rw [← hY]; rfl
  have YA : Y.A = X.A := by rw [← hY]; rfl
  have Yc : Y.calm = true := by rw [← hY]; exact hc
  have Yenv : Y.env = compEnvC scope (closL scope.names X.env.cells []) s₃.heap.objs.size X.env := by rw [← hY]; rfl
  have hg' : PG Y tg g := by rw [← hY]; exact hg _ _ _
  have Yfs : Y.fs = frs X.stack := by rw [← hY]; rfl
  have Yex : Y.ex = D :: fp := by rw [← hY]; rfl
  have Ys0 : Y.s₀ = s₃ := by rw [← hY]; rfl
  have YH0 : Y.H₀ = H₂ := by rw [← hY]; rfl
  have Ypn : Y.pn = [] := by rw [← hY]; rfl
  have Yxe : Y.xe = fun _ _ => False := by rw [← hY]; rfl
  have hif' : PIfs Y ifs tc := by rw [← hY]; exact hif _ _ _
  have he' : PE Y elt te := by rw [← hY]; exact he _ _ _
  have Dne : D ≠ Y.env.locals := by rw [Yenv]; exact Nat.ne_of_lt (Heap.lt_size hobjD)
  have Dfs : D ∉ Y.fs := by
    rw [Yfs]; intro hb
    rcases List.mem_cons.mp (I3.stkSub D hb) with z | z
    · exact fD.2.1 z
    · exact fD.2.2.1 z
  have Dcell : ∀ y c, Y.env.cells.lookup y = some c → c ≠ D := fun y c e => by
    have hfree : ∀ y ∈ scope.names, y.2 = .free → ∃ c, X.env.cells.lookup y.1 = some c := fun y hy e => I3.ok.has y.1 (ok.free y hy e)
    rw [Yenv] at e
    exact fD.2.2.2.2.1 y c (closL_lookup scope.names hfree (fun _ _ z => by simp at z) e)
  have fpY : ∀ {H' : Hp} {pl : List (Addr × Obj)}, (∀ b ∈ fp, H' b = none) → (∀ p ∈ pl, p.1 ∉ fp) → ∀ b ∈ fp, FpOk Y pl H' b := fun {H' pl} hn hp b hb => by
    obtain ⟨g0, g1, g2, g3, g4, g5⟩ := f2 b hb
    have hlt := (hex b (List.mem_cons_of_mem _ hb)).1
    refine ⟨hn b hb, ?_, ?_, .inl (by rw [Yex]; exact List.mem_cons_of_mem _ hb), fun y c e => ?_, fun p q z => ?_⟩
    · rw [Yenv]; exact Nat.ne_of_lt hlt
    · rw [Yfs]; intro z
      rcases List.mem_cons.mp (I3.stkSub b z) with z | z
      · exact g1 z
      · exact g2 z
    · have hfree : ∀ y ∈ scope.names, y.2 = .free → ∃ c, X.env.cells.lookup y.1 = some c := fun y hy e => I3.ok.has y.1 (ok.free y hy e)
      rw [Yenv] at e
      exact g4 y c (closL_lookup scope.names hfree (fun _ _ z => by simp at z) e)
    · rw [Ypn, List.nil_append] at q
      exact hp p q (by rw [z]; exact hb)
  have DY : ∀ {H' : Hp}, H' D = none → FpOk Y [] H' D := fun {H'} hn => ⟨hn, Dne, Dfs, .inl (by rw [Yex]; exact List.mem_cons_self), Dcell, fun p q => absurd (show p ∈ ([] : List (Addr × Obj)) by rw [Ypn] at q; exact q) (by simp)⟩
  have pinD : ∀ {σ' : St} {H' : Hp} {s' : Shared} {its : Array Value} {n : Nat}, Inv Y [] σ' H' s' → H' D = none → s'.heap.get? D = some { cls := .type "list", data := .seq its n } → Inv Y [(D, { cls := .type "list", data := .seq its n })] σ' H' s' := fun {σ' H' s' its n} J' hn e => by
    refine J'.pins_of fun p hp => ?_
    have : p = (D, { cls := .type "list", data := .seq its n }) := by simpa using hp
    subst this
    exact ⟨e, hn, Dne, Dfs, fun v z => by
      have z' : Data.seq its n = Data.cell v := z
      cases z'⟩
  rw [← Yenv]
  obtain ⟨m0, w0⟩ := w0
  refine compLoop_any (fun m s' => ∃ i ys σ0 σ1 H' its n, Inv Y [(D, { cls := .type "list", data := .seq its n })] (σ0 :: σ1 :: σ) H' s' ∧ tn i s'.heap ∧ (∀ b ∈ fp, H' b = none) ∧ Vals ys its.toList ∧ W i m ys H') ?_ m0
    ⟨0, [], none, none, H₂, _, _, pinD I4 hDfresh (keep31 D _ hobjD), T.keep 0 _ _ st (fun b _ o e => keep31 b o e), fun b hb => (f2 b hb).1, .nil, w0⟩
  rintro m s' ⟨i, ys, σ0, σ1, H', its, n, J', st', fr', rv, w'⟩
  obtain ⟨hle, hW'⟩ := hW i m ys H' w'
  have hDn : H' D = none := (J'.pin (D, { cls := .type "list", data := .seq its n }) (by simp)).2.1
  have fpn : ∀ p ∈ [((D, { cls := .type "list", data := .seq its n }) : Addr × Obj)], p.1 ∉ fp := fun p hp => by
    have : p = (D, { cls := .type "list", data := .seq its n }) := by simpa using hp
    subst this; exact Dfp
  rcases hW' with ⟨stop, hf⟩ | ⟨go, step⟩
  ·
    have h9 := T.done Y Yprog Yw YK Yc i _ s' (σ0 :: σ1 :: σ) H' (fun _ _ => False) J' (fpY fr' fpn) st' stop
    rw [YA] at h9
    refine thn h9 fun r s5 ⟨hr, J5⟩ => ?_
    subst hr
    show RR (.ref D) s₃.heap.objs.size (.ok .next) s5
    have eD := (J5.pin (D, { cls := .type "list", data := .seq its n }) (by simp)).1
    have un : Un (frs X.stack) (D :: fp) H₂ H' s₃.heap s5.heap := by
      have := J5.base
      rw [Yfs, Yex, YH0, Ys0] at this
      exact this
    have hok5 : HOk X.prog X.w H' s5.heap := by
      have := J5.hok
      rw [Yprog, Yw] at this
      exact this
    have os5 : s5.os = s₃.os := by have := J5.os; rw [Ys0] at this; exact this
    have I5 : Inv X pins σ H' s5 := I3.call' os5 un hok5 J5.bare fun b hb => by
      rcases List.mem_cons.mp hb with e | hb
      · subst e; exact ⟨fD.2.2.2.1, fD.2.1, fD.2.2.2.2.1, fD.2.2.2.2.2⟩
      · obtain ⟨g0, g1, g2, g3, g4, g5⟩ := f2 b hb
        exact ⟨g3, g1, g4, g5⟩
    have I6 : Inv X pins σ (upd H' D (.lst ys)) s5 := I5.track hDn h0D fD.2.1 fD.2.2.2.2.1 fD.2.2.2.2.2 ⟨hle, its.toList, n, rv, by simpa using eD⟩
    obtain ⟨mC, hnC, _⟩ := J5.loc
    have eL : Y.env.locals = s₃.heap.objs.size := by rw [Yenv]; rfl
    have hCn : H' s₃.heap.objs.size = none := by have := J5.free; rw [eL] at this; exact this
    refine hRR D s₃.heap.objs.size ys H' s5 hDn hf I6 ?_ ⟨mC, by rw [← eL]; exact hnC⟩
    exact I3.fpOk (Nat.le_refl _) (by rw [upd_ne (Nat.ne_of_gt (Heap.lt_size hobjD))]; exact hCn)
  ·
    have h9 := T.item Y Yprog Yw YK Yc i _ s' (σ0 :: σ1 :: σ) H' (fun _ _ => False) J' (fpY fr' fpn) st' go
    rw [YA] at h9
    refine thn h9 fun r s5 ⟨u, hr, h5⟩ => ?_
    subst hr
    refine thn h5 fun _ s6 ⟨v, H6, J6, rv6, y6, st6, fr6⟩ => ?_
    have hDn6 : H6 D = none := (J6.pin (D, { cls := .type "list", data := .seq its n }) (by simp)).2.1
    have J6' := J6.pinned (fp := fp) (fpY fr6 fpn) (T.obj _ _ st6)
    have hst := step σ0 σ1 v H6 y6
    have h10 := hg' _ s6 (σ0 :: σ1 :: σ) H6 v u _ J6' rv6 hst
    rw [Yprog, Yw, YA, Yxe] at h10
    refine thn h10 fun _ s7 ⟨σ7, H7, J7, a7, b7, e7, q7⟩ => ?_
    subst e7
    have h10 := hif' _ s7 (a7 :: b7 :: σ) H7 _ J7 q7
    rw [Yprog, Yw, YA, Yxe] at h10
    refine thn h10 fun b s8 ⟨H8, J8, q8⟩ => ?_
    have again : ∀ {s9 : Shared} {H9 : Hp} {ys' : List V} {its' : Array Value} {n' : Nat}, Inv Y [] (a7 :: b7 :: σ) H9 s9 → (∀ b ∈ fp, H9 b = none ∧ ∀ o, s6.heap.get? b = some o → s9.heap.get? b = some o) → H9 D = none →
        s9.heap.get? D = some { cls := .type "list", data := .seq its' n' } → Vals ys' its'.toList → (∃ m', m' < m ∧ W (i + 1) m' ys' H9) →
        ∃ m', m' < m ∧ ∃ i ys σ0 σ1 H' its n, Inv Y [(D, { cls := .type "list", data := .seq its n })] (σ0 :: σ1 :: σ) H' s9 ∧ tn i s9.heap ∧ (∀ b ∈ fp, H' b = none) ∧ Vals ys its.toList ∧ W i m' ys H' := fun {s9 H9 ys' its' n'} J9 hfp9 hD9 eD9 rv9 hw9 => by
      obtain ⟨m', hm, w9⟩ := hw9
      exact ⟨m', hm, i + 1, ys', a7, b7, H9, its', n', pinD J9 hD9 eD9, T.keep _ _ _ st6 (fun b hb o e => (hfp9 b hb).2 o e), fun b hb => (hfp9 b hb).1, rv9, w9⟩
    have pinF : ∀ {σ9 : St} {H9 : Hp} {s9 : Shared}, Inv Y ([(D, { cls := .type "list", data := .seq its n })] ++ pinsAt fp s6.heap) σ9 H9 s9 → ∀ b ∈ fp, H9 b = none ∧ ∀ o, s6.heap.get? b = some o → s9.heap.get? b = some o := fun {σ9 H9 s9} J9 b hb => by
      obtain ⟨o, eo, _⟩ := T.obj _ _ st6 b hb
      have p := J9.pin (b, o) (List.mem_append_right _ (List.mem_append_right _ (mem_pinsAt hb eo)))
      exact ⟨p.2.1, fun o' e' => by rw [eo] at e'; cases e'; exact p.1⟩
    have pinL : ∀ {σ9 : St} {H9 : Hp} {s9 : Shared}, Inv Y ([(D, { cls := .type "list", data := .seq its n })] ++ pinsAt fp s6.heap) σ9 H9 s9 → s9.heap.get? D = some { cls := .type "list", data := .seq its n } ∧ H9 D = none := fun {σ9 H9 s9} J9 => by
      have p := J9.pin (D, { cls := .type "list", data := .seq its n }) (List.mem_append_right _ (List.mem_append_left _ (by simp)))
      exact ⟨p.1, p.2.1⟩
    cases b with
    | false =>
      show ∃ m', m' < m ∧ _
      have q8' : ∃ m', m' < m ∧ W (i + 1) m' ys H8 := q8
      obtain ⟨eD8, hD8⟩ := pinL J8
      exact again (J8.pins_of fun p hp => absurd hp (by simp)) (pinF J8) hD8 eD8 rv q8'
    | true =>
      show wpAny _ _ _ _ _ _
      have q8' : te (a7 :: b7 :: σ) H8 fun y H3 => ∃ m', m' < m ∧ W (i + 1) m' (ys ++ [y]) H3 := q8
      have h11 := he' _ s8 (a7 :: b7 :: σ) H8 _ J8 q8'
      rw [Yprog, Yw, YA, Yxe] at h11
      refine thn h11 fun yv s9 ⟨y, H9, J9, ry, q9⟩ => ?_
      obtain ⟨eD9, hD9⟩ := pinL J9
      have hz : its.size ≤ sizeLine := by have := rv.length; simp only [Array.length_toList] at this; omega
      refine wpAny_list_append_plain (hsz := hz) ⟨n, eD9⟩ fun h' hl' hsb' => ?_
      obtain ⟨n', eD'⟩ := hl'
      have J9' : Inv Y [] (a7 :: b7 :: σ) H9 s9 := J9.pins_of fun p hp => absurd hp (by simp)
      obtain ⟨g0, g1, g2, g3, g4, g5⟩ := DY hD9
      have J10 : Inv Y [] (a7 :: b7 :: σ) H9 { s9 with heap := h' } := J9'.turned (t' := s9.toks) (fun b o hb e => Heap.SameBut.keeps hsb' hb e) g0 g1 g3 g4 g5
      refine again J10 (fun b hb => ?_) hD9 eD' (by simpa using rv.append (Vals.cons' ry)) q9
      have p9 := pinF J9 b hb
      exact ⟨p9.1, fun o e => Heap.SameBut.keeps hsb' (fun z => Dfp (z ▸ hb)) (p9.2 o e)⟩
theorem comp_coreP {x z : Str} {tg : Expr} {pos : Pos} {g : TG} {scope : Scope} {elt iter : Expr} {ifs : List Expr} {tc : TT} {te : TE} {pins : List (Addr × Obj)} {σ : St} {H₂ : Hp} {s₂ : Shared} {it : Addr} {fp : List Addr} {tn : Nat → Heap → Prop} {J : It} {fin : List V → Hp → Prop}
    {W : Nat → Nat → List V → Hp → Prop} {RR : Value → Addr → Result → Shared → Prop} {E : Value → Shared → Prop}
    (ok : CompOkP scope X.env.scope X.N x z) (hc : X.calm = true) (hg : ∀ s H ex, PG (cxCompP X x z scope s H ex) tg g) (hif : ∀ s H ex, PIfs (cxCompP X x z scope s H ex) ifs tc) (he : ∀ s H ex, PE (cxCompP X x z scope s H ex) elt te)
    (I2 : Inv X pins σ H₂ s₂) (T : Turn X.prog X.w X.K tg J fp it tn) (st : tn 0 s₂.heap) (f2 : ∀ b ∈ fp, FpOk X pins H₂ b) (w0 : ∃ m, W 0 m [] H₂) (hW : CompWP J g tc te σ fin W)
    (hRR : ∀ D C ys H' s', H' D = none → fin ys H' → Inv X pins σ (upd H' D (.lst ys)) s' → FpOk X pins (upd H' D (.lst ys)) C → (∃ m, s'.heap.Ns C m) → RR (.ref D) C (.ok .next) s') :
    wpAny (model X.prog X.w) X.A (newList []) (fun acc s₃ => wpAny (model X.prog X.w) X.A (newFunctionEnv scope X.env.globals (closL scope.names X.env.cells []) [] X.env.qual none .none (some X.env)) (fun cenv s₄ =>
      codeAny (model X.prog X.w) X.A (.compStart (.ListComp elt [⟨tg, iter, ifs, 0⟩] scope pos) 0 (.ref it) acc { cenv with scope := relabel scope X.env }) (RR acc cenv.locals) s₄) E s₃) E s₂ := by
  refine wpAny_newObj_type (wpAny_newFunctionEnv ok.nocell (by intro y hy; simp at hy) (fun h₁ hns₁ hsb₁ => ?_) ok.kind)
  have I3 : Inv X pins σ H₂ { s₂ with heap := s₂.heap.push { cls := .type "list", dict := none, data := .seq ([] : List Value).toArray } } := I2.kept (t' := s₂.toks) fun b o e => Heap.get?_push_of_some _ e
  have keep31 : ∀ b o, (s₂.heap.push { cls := .type "list", dict := none, data := .seq ([] : List Value).toArray }).get? b = some o → h₁.get? b = some o := fun b o e => Heap.SameBut.keeps hsb₁ (Nat.ne_of_lt (Heap.lt_size e)) (Heap.get?_push_of_some _ e)
  have keep23 : ∀ b o, s₂.heap.get? b = some o → (s₂.heap.push { cls := .type "list", dict := none, data := .seq ([] : List Value).toArray }).get? b = some o := fun b o e => Heap.get?_push_of_some _ e
  have hDfresh : H₂ s₂.heap.objs.size = none := I2.hok.fresh (Nat.le_refl _)
  have loop := comp_loopP (RR := RR) (s₃ := { s₂ with heap := s₂.heap.push { cls := .type "list", dict := none, data := .seq ([] : List Value).toArray } }) (h₁ := h₁) (tk := s₂.toks + ([] : List (Str × Value)).length) (iter := iter) (pos := pos)
    ok hc hg hif he I3 T (T.keep 0 _ _ st fun b _ o e => keep23 b o e) f2 w0 hW hDfresh (I2.fpOk (Nat.le_refl _) hDfresh) I2.sz (Heap.get?_push_size _ rfl) (fun hb => by
      obtain ⟨o, e, _⟩ := T.obj 0 _ st _ hb
      exact Nat.lt_irrefl _ (Heap.lt_size e)) (by simpa using hns₁) keep31 hRR
  exact codeAny_compStart_list loop (T.self _ 0 _ _ _ (T.keep 0 _ _ st fun b _ o e => keep31 b o (keep23 b o e)) loop)
def tCompP (g : TG) (wi : TI) (tc : TT) (te : TE) : TE := fun σ H Q => wi σ H fun J H1 => ∃ W : Nat → Nat → List V → Hp → Prop, (∃ m, W 0 m [] H1) ∧ CompWP J g tc te σ (fun ys H2 => ∀ p, H2 p = none → Q (.ref p) (upd H2 p (.lst ys))) W
theorem pe_compP {x z : Str} {tg : Expr} {pos : Pos} {g : TG} {scope : Scope} {elt iter : Expr} {ifs : List Expr} {wi : TI} {tc : TT} {te : TE} (ok : compOkP scope X.env.scope X.N x z = true) (hc : X.calm = true) (hi : PI X tg iter wi)
    (hg : ∀ s H ex, PG (cxCompP X x z scope s H ex) tg g) (hif : ∀ s H ex, PIfs (cxCompP X x z scope s H ex) ifs tc) (he : ∀ s H ex, PE (cxCompP X x z scope s H ex) elt te) (hs : ∀ v, foldedSetIterable iter X.env v = pure v := by intro _; rfl) :
    PE X (.ListComp elt [⟨tg, iter, ifs, 0⟩] scope pos) (tCompP g wi tc te) := by
  intro pins s σ H Q I h
  have ok' := compOkP_iff ok
  have hfree : ∀ y ∈ scope.names, y.2 = .free → ∃ c, X.env.cells.lookup y.1 = some c := fun y hy e => I.ok.has y.1 (ok'.free y hy e)
  rw [eval_ListComp]
  refine wpAny_comprehension_free (use := none) rfl hs (closure_is hfree) ok'.kind ok'.names (thn (hi pins s σ H _ I h) fun v s1 h1 => thn h1 fun itv s2 h2 => ?_)
  obtain ⟨it, fp, tn, J, H2, e, I2, T, st2, f2, W, w0, hW⟩ := h2
  subst e
  refine comp_coreP (RR := fun acc C => compPost (model X.prog X.w) X.A X.xe none (EP X pins σ Q) acc C) ok' hc hg hif he I2 T st2 f2 w0 hW fun D C ys H' s' hD fin I' fC hm => ?_
  obtain ⟨m, hm⟩ := hm
  refine ⟨m, hm, fun h' hsb => ?_⟩
  obtain ⟨g0, g1, g2, g3, g4, g5⟩ := fC
  exact ⟨.ref D, _, I'.turned (t' := s'.toks) (fun b o hb e => Heap.SameBut.keeps hsb hb e) g0 g1 g3 g4 g5, rfl, fin D hD⟩
theorem r_compP {x z : Str} {tg elt iter : Expr} {ifs : List Expr} {pos : Pos} {scope : Scope} {g : TG} {wi : TI} {tc : TT} {te : TE} (ok : compOkP scope X.env.scope X.N x z = true) (hc : X.calm = true) (hi : RI X tg iter wi) (hg : ∀ s H ex, RG (cxCompP X x z scope s H ex) tg g)
    (hif : ∀ s H ex, RIf (cxCompP X x z scope s H ex) ifs tc) (he : ∀ s H ex, RE (cxCompP X x z scope s H ex) elt te) (hs : ∀ v, foldedSetIterable iter X.env v = pure v := by intro _; rfl) :
    RE X (.ListComp elt [⟨tg, iter, ifs, 0⟩] scope pos) (tCompP g wi tc te) := ⟨pe_compP ok hc hi.ok (fun s H ex => (hg s H ex).ok) (fun s H ex => (hif s H ex).ok) (fun s H ex => (he s H ex).ok) hs⟩
theorem rg_pair {x z : Str} {px pz tpos : Pos} {n : Nat} {scope : Scope} (ok : compOkP scope X.env.scope X.N x z = true) (hc : X.calm = true) (s : Shared) (H : Hp) (ex : List Addr) :
    RG (cxCompP X x z scope s H ex) (.Tuple [.Name x px, .Name z pz] n tpos) (gTup X.K 2 (gCons (gName 0) (gCons (gName 1) gNil))) := by
  have o := compOkP_iff ok
  have lx : (cxCompP X x z scope s H ex).env.scope.names.lookup x = some .local := lookup_relabel_local o.own
  have lz : (cxCompP X x z scope s H ex).env.scope.names.lookup z = some .local := lookup_relabel_local o.own2
  have nd : (cxCompP X x z scope s H ex).N.Nodup := o.nd
  exact ⟨pg_tup (X := cxCompP X x z scope s H ex) hc (pgs_cons (pg_name (i := 0) nd rfl (.inl lx) (.inr lx)) (pgs_cons (pg_name (i := 1) nd rfl (.inl lz) (.inr lz)) pgs_nil))⟩
theorem r_compPair {K : PySem.W.Frag} {x z : Str} {px pz tpos pos : Pos} {n : Nat} {elt iter : Expr} {ifs : List Expr} {scope : Scope} {wi : TI} {tc : TT} {te : TE} (ok : compOkP scope X.env.scope X.N x z = true) (hc : X.calm = true) (hi : RI X (.Tuple [.Name x px, .Name z pz] n tpos) iter wi)
    (hif : ∀ s H ex, RIf (cxCompP X x z scope s H ex) ifs tc) (he : ∀ s H ex, RE (cxCompP X x z scope s H ex) elt te) (hK : X.K = K := by rfl) (hs : ∀ v, foldedSetIterable iter X.env v = pure v := by intro _; rfl) :
    RE X (.ListComp elt [⟨.Tuple [.Name x px, .Name z pz] n tpos, iter, ifs, 0⟩] scope pos) (tCompP (gTup K 2 (gCons (gName 0) (gCons (gName 1) gNil))) wi tc te) := by
  subst hK
  exact r_compP ok hc hi (rg_pair ok hc) hif he hs
def tMethX (C : Addr) (m : Str) (sp : Sp) (ta : TE) (t : TA) : TEX := fun σ H Q E => ta σ H fun x H1 => ∃ a dx fs, x = .ref a ∧ H1 a = some (.ins C dx fs) ∧ fs.lookup m = none ∧ t σ H1 fun vs H2 => sp (x :: (vs ++ [])) H2 Q fun c _ H' => E c H'
theorem rx_meth {k j : Nat} {C : Addr} {m : Str} {ps : List Str} {sp : Sp} {o e : Expr} {es : List Expr} {apos pos : Pos} {ta : TE} {t : TA} (D : Mth X.prog X.w X.K X.mg X.base k C m ps sp) (hr : Room j X.A) (ho : RE X.nox o ta) (ha : RA X.nox (e :: es) t) (hk : k ≤ j := by decide) (h1 : (e :: es).all notStar = true := by rfl)
    (hbase : attributeBase o m X.env (eval o X.env) = eval o X.env := by rfl) (hlen : decide ((e :: es).length < 30) = true := by rfl) (hline : (apos.endLine == pos.line) = true := by rfl) : REX X (.Call (.Attribute o m apos) (e :: es) [] pos) (tMethX C m sp ta t) := by
  obtain ⟨f, fd, M, F, hb⟩ := D.ex
  have h1' := h1
  rw [List.all_cons, Bool.and_eq_true] at h1'
  refine ⟨fun pins s σ H Q E I h => ?_⟩
  refine PySem.W.methodCall_KW (pl := do return (← importBound o X.env).getD true) (wpAny_mono (ho.ok pins s σ H _ (I.wish _) h) (fun u s1 ⟨x, H1, I1, rx, a, dx, fs, ex, ea, l, q⟩ => ?_) fun _ _ z => False.elim z) (meth_eq hbase h1 hlen hline)
  subst ex
  obtain rfl : u = Value.ref a := rx
  refine getmeth_ok I1.unwish ea D.cl M l ?_
  refine PySem.W.callWith_K (first := [.ref a]) (h₀ := X.base) I.ok.mod.kin M.kp (wpAny_mono (ha.ok pos pins s1 σ H1 _ I1 q) (fun us s2 ⟨vs, H2, I2, r, q2⟩ => ⟨I2.kIn, ?_⟩) fun _ _ z => False.elim z) (st_of h1'.1) (np_of h1'.2)
  refine run_fnX (us := .ref a :: us) (vs := .ref a :: vs) F (hr.mono hk) hb .nil I2.unwish (.cons rfl r) q2 fun ev s' hq => ⟨σ, H2, s2, I2.unwish, ?_⟩
  obtain ⟨ea', C', H', g1, g2, g3, g4, g5, g6, g7⟩ := hq
  exact ⟨ea', C', H', g1, g2, g3, g4, g5, g6, rfl, g7⟩
theorem compP_list {K : PySem.W.Frag} {a : Addr} {xs : List V} {g : TG} {tc : TT} {te : TE} {σ : St} {fin : List V → Hp → Prop} {H : Hp} (R : Nat → List V → Hp → Prop) (hn : xs.length ≤ sizeLine)
    (hq : ∀ i ys H, i ≤ xs.length → R i ys H → SqL K H a xs) (hl : ∀ i ys H, i ≤ xs.length → R i ys H → ys.length ≤ i) (h0 : R 0 [] H)
    (hs : ∀ i x ys H p q, xs[i]? = some x → R i ys H → ∀ G : List V → Hp → Prop, (∀ ys' H', R (i + 1) ys' H' → G ys' H') → g x (p :: q :: σ) H fun σ2 H2 => ∃ p' q', σ2 = p' :: q' :: σ ∧ tc σ2 H2 fun ok H3 => if ok = true then te σ2 H3 fun y H4 => G (ys ++ [y]) H4 else G ys H3)
    (hd : ∀ ys H, R xs.length ys H → fin ys H) : ∃ W : Nat → Nat → List V → Hp → Prop, (∃ m, W 0 m [] H) ∧ CompWP (Itl K a) g tc te σ fin W := by
  refine ⟨fun i m ys H => m = xs.length - i ∧ i ≤ xs.length ∧ R i ys H, ⟨xs.length, by omega, Nat.zero_le _, h0⟩, ?_⟩
  rintro i m ys H ⟨rfl, hi, r⟩
  refine ⟨Nat.le_trans (hl i ys H hi r) (Nat.le_trans hi hn), ?_⟩
  by_cases hlt : i < xs.length
  · refine .inr ⟨⟨xs, xs[i], hq i ys H hi r, by simp [hlt]⟩, fun p q v H' y => ?_⟩
    obtain ⟨rfl, y⟩ := y
    have e := y xs (hq i ys _ hi r)
    exact hs i v ys _ p q e r (fun ys' H2 => ∃ m', m' < xs.length - i ∧ (m' = xs.length - (i + 1) ∧ i + 1 ≤ xs.length ∧ R (i + 1) ys' H2)) fun ys' H2 r' => ⟨xs.length - (i + 1), by omega, rfl, hlt, r'⟩
  · have e : i = xs.length := by omega
    subst e
    exact .inl ⟨⟨xs, hq _ ys H (Nat.le_refl _) r, Nat.le_refl _⟩, hd ys H r⟩
end
end L2
set_option Elab.async false
set_option linter.all false
set_option maxRecDepth 100000
set_option maxHeartbeats 1000000
namespace My
open PySem L2
def top (i : Nat) : Stmt := PySem.Challenge.pw_dampfield_k10_games.main.body.getD i (.Pass ⟨0, 0, 0, 0⟩)
abbrev s_is_row : Stmt := top 11
theorem sc_is_row : FnScope ["row", "width"] ["row", "width"] (defScope s_is_row) := ⟨rfl, rfl, rfl, by decide +kernel, rfl, by decide +kernel, by decide +kernel⟩
abbrev s_is_size : Stmt := top 12
theorem sc_is_size : FnScope ["height", "width"] ["height", "width"] (defScope s_is_size) := ⟨rfl, rfl, rfl, by decide +kernel, rfl, by decide +kernel, by decide +kernel⟩
abbrev s_is_view : Stmt := top 13
theorem sc_is_view : FnScope ["rows"] ["rows"] (defScope s_is_view) := ⟨rfl, rfl, rfl, by decide +kernel, rfl, by decide +kernel, by decide +kernel⟩
abbrev s_View___init__ : Stmt := inClass (top 14) 0
theorem sc_View___init__ : FnScope ["self", "rows"] ["self", "rows"] (defScope s_View___init__) := ⟨rfl, rfl, rfl, by decide +kernel, rfl, by decide +kernel, by decide +kernel⟩
abbrev s_has_cell : Stmt := top 15
theorem sc_has_cell : FnScope ["view", "cell"] ["view", "cell"] (defScope s_has_cell) := ⟨rfl, rfl, rfl, by decide +kernel, rfl, by decide +kernel, by decide +kernel⟩
abbrev s_is_closed : Stmt := top 16
theorem sc_is_closed : FnScope ["view", "cell"] ["view", "cell"] (defScope s_is_closed) := ⟨rfl, rfl, rfl, by decide +kernel, rfl, by decide +kernel, by decide +kernel⟩
abbrev s_near : Stmt := top 17
theorem sc_near : FnScope ["view", "cell", "found", "row", "column"] ["view", "cell"] (defScope s_near) := ⟨rfl, rfl, rfl, by decide +kernel, rfl, by decide +kernel, by decide +kernel⟩
abbrev s_is_laying : Stmt := top 18
theorem sc_is_laying : FnScope ["view", "laying", "place"] ["view", "laying"] (defScope s_is_laying) := ⟨rfl, rfl, rfl, by decide +kernel, rfl, by decide +kernel, by decide +kernel⟩
abbrev s_stones_near : Stmt := top 19
theorem sc_stones_near : FnScope ["view", "cell", "laying"] ["view", "cell", "laying"] (defScope s_stones_near) := ⟨rfl, rfl, rfl, by decide +kernel, rfl, by decide +kernel, by decide +kernel⟩
abbrev s_Game___init__ : Stmt := inClass (top 21) 0
theorem sc_Game___init__ : FnScope ["self", "height", "width", "stones", "field"] ["self", "height", "width", "stones"] (defScope s_Game___init__) := ⟨rfl, rfl, rfl, by decide +kernel, rfl, by decide +kernel, by decide +kernel⟩
abbrev s_Game_uncover : Stmt := inClass (top 21) 1
theorem sc_Game_uncover : FnScope ["self", "cell", "opened", "waiting", "member"] ["self", "cell"] (defScope s_Game_uncover) := ⟨rfl, rfl, rfl, by decide +kernel, rfl, by decide +kernel, by decide +kernel⟩
abbrev s_Game_view : Stmt := inClass (top 21) 2
theorem sc_Game_view : FnScope ["self", "rows", "row", "signs"] ["self"] (defScope s_Game_view) := ⟨rfl, rfl, rfl, by decide +kernel, rfl, by decide +kernel, by decide +kernel⟩
abbrev s_Game_state : Stmt := inClass (top 21) 3
theorem sc_Game_state : FnScope ["self"] ["self"] (defScope s_Game_state) := ⟨rfl, rfl, rfl, by decide +kernel, rfl, by decide +kernel, by decide +kernel⟩
abbrev s__law_cell_at : Stmt := top 23
theorem sc__law_cell_at : FnScope ["script", "k"] ["script", "k"] (defScope s__law_cell_at) := ⟨rfl, rfl, rfl, by decide +kernel, rfl, by decide +kernel, by decide +kernel⟩
abbrev s__law_mix : Stmt := top 24
theorem sc__law_mix : FnScope ["cell", "k", "many", "some", "stir"] ["cell", "k", "many"] (defScope s__law_mix) := ⟨rfl, rfl, rfl, by decide +kernel, rfl, by decide +kernel, by decide +kernel⟩
abbrev s__law_whole : Stmt := top 25
theorem sc__law_whole : FnScope ["found"] ["found"] (defScope s__law_whole) := ⟨rfl, rfl, rfl, by decide +kernel, rfl, by decide +kernel, by decide +kernel⟩
abbrev s__law_near : Stmt := top 26
theorem sc__law_near : FnScope ["height", "width", "cell", "found", "dr", "dc", "one"] ["height", "width", "cell"] (defScope s__law_near) := ⟨rfl, rfl, rfl, by decide +kernel, rfl, by decide +kernel, by decide +kernel⟩
abbrev s__law_field_by : Stmt := top 29
theorem sc__law_field_by : FnScope ["script", "most", "cell", "height", "width", "thin", "stones", "r", "c"] ["script", "most"] (defScope s__law_field_by) := ⟨rfl, rfl, rfl, by decide +kernel, rfl, by decide +kernel, by decide +kernel⟩
abbrev s__law_figure : Stmt := top 30
theorem sc__law_figure : FnScope ["height", "width", "stones", "cell"] ["height", "width", "stones", "cell"] (defScope s__law_figure) := ⟨rfl, rfl, rfl, by decide +kernel, rfl, by decide +kernel, by decide +kernel⟩
abbrev s__law_shown : Stmt := top 31
theorem sc__law_shown : FnScope ["height", "width", "stones", "known", "rows", "r", "row", "c"] ["height", "width", "stones", "known"] (defScope s__law_shown) := ⟨rfl, rfl, rfl, by decide +kernel, rfl, by decide +kernel, by decide +kernel⟩
abbrev s__law_opened : Stmt := top 32
theorem sc__law_opened : FnScope ["height", "width", "stones", "known", "cell", "found", "at"] ["height", "width", "stones", "known", "cell"] (defScope s__law_opened) := ⟨rfl, rfl, rfl, by decide +kernel, rfl, by decide +kernel, by decide +kernel⟩
abbrev s__law_places : Stmt := top 33
theorem sc__law_places : FnScope ["found", "due"] ["found", "due"] (defScope s__law_places) := ⟨rfl, rfl, rfl, by decide +kernel, rfl, by decide +kernel, by decide +kernel⟩
abbrev s__law_met : Stmt := top 34
theorem sc__law_met : FnScope ["game", "cell", "e"] ["game", "cell"] (defScope s__law_met) := ⟨rfl, rfl, rfl, by decide +kernel, rfl, by decide +kernel, by decide +kernel⟩
abbrev s__law_state : Stmt := top 35
theorem sc__law_state : FnScope ["height", "width", "stones", "known", "lost"] ["height", "width", "stones", "known", "lost"] (defScope s__law_state) := ⟨rfl, rfl, rfl, by decide +kernel, rfl, by decide +kernel, by decide +kernel⟩
abbrev s__law_due : Stmt := top 36
theorem sc__law_due : FnScope ["height", "width", "stones", "known", "state", "cell"] ["height", "width", "stones", "known", "state", "cell"] (defScope s__law_due) := ⟨rfl, rfl, rfl, by decide +kernel, rfl, by decide +kernel, by decide +kernel⟩
abbrev s_law : Stmt := top 37
theorem sc_law : FnScope ["script", "height", "width", "stones", "handed", "game", "known", "state", "views", "k", "cell", "place", "free", "r", "due", "found", "view"] ["script"] (defScope s_law) := ⟨rfl, rfl, rfl, by decide +kernel, rfl, by decide +kernel, by decide +kernel⟩
structure Adr where
  FieldError : Addr
  BadView : Addr
  BadLaying : Addr
  NoCell : Addr
  Over : Addr
  View : Addr
  Game : Addr
structure Txt (K : PySem.W.Frag) (mg : Str → Option Value) (Z : Adr) : Prop where
  b_all : mg "all" = none
  b_bool : mg "bool" = none
  b_int : mg "int" = none
  b_isinstance : mg "isinstance" = none
  b_len : mg "len" = none
  b_list : mg "list" = none
  b_max : mg "max" = none
  b_min : mg "min" = none
  b_range : mg "range" = none
  b_sorted : mg "sorted" = none
  b_str : mg "str" = none
  b_tuple : mg "tuple" = none
  g_MOST_ROWS : ∃ t, mg "MOST_ROWS" = some (.int 6 t)
  g_MOST_COLUMNS : ∃ t, mg "MOST_COLUMNS" = some (.int 6 t)
  g_CLOSED_SIGN : ∃ t, mg "CLOSED_SIGN" = some (.str "#" t)
  g_SIGNS : ∃ t, mg "SIGNS" = some (.str "#012345678" t)
  c_FieldError : mg "FieldError" = some (.ref Z.FieldError)
  x_FieldError : ErrCls K Z.FieldError
  c_BadView : mg "BadView" = some (.ref Z.BadView)
  x_BadView : ErrCls K Z.BadView
  c_BadLaying : mg "BadLaying" = some (.ref Z.BadLaying)
  x_BadLaying : ErrCls K Z.BadLaying
  c_NoCell : mg "NoCell" = some (.ref Z.NoCell)
  x_NoCell : ErrCls K Z.NoCell
  c_Over : mg "Over" = some (.ref Z.Over)
  x_Over : ErrCls K Z.Over
  c_View : mg "View" = some (.ref Z.View)
  cl_View : Cls K Z.View
  n_View_rows : NoAttr K Z.View "rows"
  n_View_height : NoAttr K Z.View "height"
  n_View_width : NoAttr K Z.View "width"
  c_Game : mg "Game" = some (.ref Z.Game)
  cl_Game : Cls K Z.Game
  n_Game_field : NoAttr K Z.Game "field"
  n_Game_hidden : NoAttr K Z.Game "hidden"
  n_Game_figures : NoAttr K Z.Game "figures"
  n_Game_lost : NoAttr K Z.Game "lost"
  q_ii : PySem.W.kitOne K (.type "int") (.type "int") = some true
  q_ib : PySem.W.kitOne K (.type "int") (.type "bool") = some false
  q_ll : PySem.W.kitOne K (.type "list") (.type "list") = some true
  q_tt : PySem.W.kitOne K (.type "tuple") (.type "tuple") = some true
  q_of : PySem.W.kitOne K (.ref Z.Over) (.ref Z.FieldError) = some true
  q_nf : PySem.W.kitOne K (.ref Z.NoCell) (.ref Z.FieldError) = some true
  q_no : PySem.W.kitOne K (.ref Z.NoCell) (.ref Z.Over) = some false
  q_vv : PySem.W.kitOne K (.ref Z.View) (.ref Z.View) = some true
def spCell (K : PySem.W.Frag) : Sp := fun vs H Q _ => ∃ (a : Addr) (ns : List Int) (k : Int), vs = [.ref a, .int k] ∧ 0 ≤ k ∧ SqL K H a (ns.map V.int) ∧ ∀ r : Int, Q (.int r) H
def spMix : Sp := fun vs H Q _ => ∃ (c k m : Int), vs = [.int c, .int k, .int m] ∧ 0 < m ∧ ∀ (r : Int) (H' : Hp), 0 ≤ r → r < m → Same H H' → Q (.int r) H'
def spWhole : Sp := fun vs H Q _ => ∃ i : Int, vs = [.int i] ∧ Q (.bl true) H
def spNear (K : PySem.W.Frag) : Sp := fun vs H Q _ => ∃ (h w : Int) (v : V) (x : Cell), vs = [.int h, .int w, v] ∧ Den K H v (cellD x) ∧ ∀ p H', Fr K H H' p ((lnear h w x).map cellD) → Q (.ref p) H'
section
variable {P : Program} {w : World} {K : PySem.W.Frag} {mg : Str → Option Value} {base : Heap} {Z : Adr}
theorem ok_cell {f : Addr} {fd : FuncData} (F : Fun K "_law_cell_at" "_law_cell_at" s__law_cell_at f fd) (T : Txt K mg Z) : FnOk P w K mg base (CXE P w) 1 f fd ["script", "k"] (spCell K) := by
  refine F.rok sc__law_cell_at (fun vs H Q E h => ?_) (fun cdv A outer s H vs Q E hr h => ?_)
  · obtain ⟨a, ns, k, rfl, _⟩ := h; rfl
  · obtain ⟨a, ns, k, rfl, h0, hS, hq⟩ := h
    refine ⟨_, (rss_cons (rs_if (rt_cmp op_lt (rv 1) (r_callB (k_len (K := K)) rfl T.b_len bt_len (ra_cons (rv 0) ra_nil)) (nomark _)) (rss_one (rs_ret (r_ix (k_ix (K := K)) (rv 0) (rv 1)))) rss_nil) (rss_one (rs_ret r_int))), ?_⟩
    refine ⟨_, rfl, _, rfl, .inl ⟨a, _, rfl, .inl hS, _, _, rfl, rfl, _, rfl, ?_⟩⟩
    refine ite2 (fun hk => ?_) (fun _ => ?_)
    · have hk' : k < ns.length := by have := of_decide_eq_true hk; simp only [List.length_map] at this; exact this
      obtain ⟨v, e⟩ := atI_int h0 hk'
      exact ⟨_, rfl, _, rfl, .inl ⟨a, _, _, _, rfl, rfl, hS, e, hq _⟩⟩
    · exact hq 0
theorem ok_mix {f : Addr} {fd : FuncData} (F : Fun K "_law_mix" "_law_mix" s__law_mix f fd) (T : Txt K mg Z) : FnOk P w K mg base (CXE P w) 1 f fd ["cell", "k", "many"] spMix := by
  refine F.rok sc__law_mix (fun vs H Q E h => ?_) (fun cdv A outer s H vs Q E hr h => ?_)
  · obtain ⟨c, k, m, rfl, _⟩ := h; rfl
  · obtain ⟨c, k, m, rfl, hm, hq⟩ := h
    refine ⟨_, (rss_cons (rs_set (i := 3) sc__law_mix.nd rfl (by first | exact Or.inl rfl | exact Or.inr rfl) (r_lst (ra_cons r_int (ra_cons r_int (ra_cons r_int (ra_cons r_int (ra_cons r_int (ra_cons r_int (ra_cons r_int (ra_cons r_int (ra_cons r_int (ra_cons r_int (ra_cons r_int (ra_cons r_int (ra_cons r_int ra_nil))))))))))))))) (rss_cons (rs_set (i := 4) sc__law_mix.nd rfl (by first | exact Or.inl rfl | exact Or.inr rfl) (r_op op_addG (r_op op_addG (r_op op_mulG (r_op op_addG (r_op op_mod (rv 0) r_int) r_int) (r_ix (k_ix (K := K)) (rv 3) (r_op op_mod (rv 1) r_int))) (r_op op_mulG r_int (rv 1))) (r_op op_mulG r_int (r_op op_fdiv (rv 1) r_int)))) (rss_cons (rs_set (i := 4) sc__law_mix.nd rfl (by first | exact Or.inl rfl | exact Or.inr rfl) (r_op op_mod (rv 4) r_int)) (rss_one (rs_ret (r_op op_mod (r_op op_fdiv (r_op op_mod (r_op op_addG (r_op op_mulG (rv 4) (rv 4)) (r_op op_mulG r_int (rv 1))) r_int) r_int) (rv 2))))))), ?_⟩
    refine ⟨by decide, fun p hp => ?_⟩
    have b0 : 0 ≤ c % 2147483647 := Int.emod_nonneg _ (by decide)
    have b1 : c % 2147483647 < 2147483647 := Int.emod_lt_of_pos _ (by decide)
    obtain ⟨v, e⟩ := atI_int (ns := [48271, 69621, 16807, 39373, 30269, 40014, 40692, 50021, 61687, 71993, 83869, 95561, 30307]) (i := k % 13) (Int.emod_nonneg _ (by decide)) (Int.emod_lt_of_pos _ (by decide))
    refine ⟨_, rfl, _, _, rfl, rfl, (by show (0 : Int) < 2147483647; decide), _, rfl, _, rfl, _, _, rfl, rfl, (by show (0 : Int) < 13; decide), .inl ⟨p, _, _, _, rfl, rfl, .of upd_same, e, .inl ⟨by omega, by omega⟩, ?_⟩⟩
    refine ⟨_, rfl, .inl ⟨by omega, by omega⟩, ?_⟩
    refine ⟨_, rfl, _, _, rfl, rfl, ⟨by decide, by decide⟩, .inl ⟨by omega, by omega⟩, ?_⟩
    refine ⟨_, rfl, _, _, rfl, rfl, (by show (0 : Int) < 1000000007; decide), ?_⟩
    refine ⟨_, rfl, _, rfl, .inl ⟨by omega, by omega⟩, ?_⟩
    refine ⟨_, rfl, .inl ⟨by omega, by omega⟩, ?_⟩
    refine ⟨_, _, rfl, rfl, (by show (0 : Int) < 1000000007; decide), ?_⟩
    refine ⟨_, _, rfl, rfl, ⟨by decide, by decide⟩, ?_⟩
    refine ⟨_, rfl, _, _, rfl, rfl, hm, ?_⟩
    exact hq _ _ (Int.emod_nonneg _ (by omega)) (Int.emod_lt_of_pos _ hm) (Same.put hp)
theorem ok_whole {f : Addr} {fd : FuncData} (F : Fun K "_law_whole" "_law_whole" s__law_whole f fd) (T : Txt K mg Z) : FnOk P w K mg base (CXE P w) 1 f fd ["found"] spWhole := by
  refine F.rok sc__law_whole (fun vs H Q E h => ?_) (fun cdv A outer s H vs Q E hr h => ?_)
  · obtain ⟨i, rfl, _⟩ := h; rfl
  · obtain ⟨i, rfl, hq⟩ := h
    refine ⟨_, (rss_one (rs_ret (r_and (r_callB (k_isiG (K := K)) rfl T.b_isinstance bt_isinstance (ra_cons (rv 0) (ra_cons (r_ty T.b_int rfl bt_int) ra_nil))) (r_one (r_not (r_callB (k_isiG (K := K)) rfl T.b_isinstance bt_isinstance (ra_cons (rv 0) (ra_cons (r_ty T.b_bool rfl bt_bool) ra_nil)))))))), ?_⟩
    refine ⟨_, rfl, .inl ⟨_, _, _, rfl, rfl, .inl ⟨_, _, .int i, T.q_ii, _, rfl, iteT ?_⟩⟩⟩
    exact ⟨_, rfl, .inl ⟨_, _, _, rfl, rfl, .inl ⟨_, _, .int i, T.q_ib, _, rfl, hq⟩⟩⟩
theorem ok_near {f : Addr} {fd : FuncData} (F : Fun K "_law_near" "_law_near" s__law_near f fd) (T : Txt K mg Z) : FnOk P w K mg base (CXE P w) 1 f fd ["height", "width", "cell"] (spNear K) := by
  refine F.rok sc__law_near (fun vs H Q E h => ?_) (fun cdv A outer s H vs Q E hr h => ?_)
  · obtain ⟨h, w, v, x, rfl, _⟩ := h; rfl
  · obtain ⟨h, w, v, x, rfl, dv, hq⟩ := h
    refine ⟨_, (rss_cons (rs_set (i := 3) sc__law_near.nd rfl (by first | exact Or.inl rfl | exact Or.inr rfl) (r_lst ra_nil)) (rss_cons (rs_for PassesOwn.never rfl (kri_list (K := K) (r_lst (ra_cons (r_tup (ra_cons (r_un un_neg r_int) (ra_cons (r_un un_neg r_int) ra_nil))) (ra_cons (r_tup (ra_cons (r_un un_neg r_int) (ra_cons r_int ra_nil))) (ra_cons (r_tup (ra_cons (r_un un_neg r_int) (ra_cons r_int ra_nil))) (ra_cons (r_tup (ra_cons r_int (ra_cons (r_un un_neg r_int) ra_nil))) (ra_cons (r_tup (ra_cons r_int (ra_cons r_int ra_nil))) (ra_cons (r_tup (ra_cons r_int (ra_cons (r_un un_neg r_int) ra_nil))) (ra_cons (r_tup (ra_cons r_int (ra_cons r_int ra_nil))) (ra_cons (r_tup (ra_cons r_int (ra_cons r_int ra_nil))) ra_nil)))))))))) (rg_tup rfl (rgs_cons (rg_name (i := 4) sc__law_near.nd rfl (by first | exact Or.inl rfl | exact Or.inr rfl)) (rgs_cons (rg_name (i := 5) sc__law_near.nd rfl (by first | exact Or.inl rfl | exact Or.inr rfl)) rgs_nil))) (rss_cons (rs_set (i := 6) sc__law_near.nd rfl (by first | exact Or.inl rfl | exact Or.inr rfl) (r_tup (ra_cons (r_op op_addG (r_ix (k_ix (K := K)) (rv 2) r_int) (rv 4)) (ra_cons (r_op op_addG (r_ix (k_ix (K := K)) (rv 2) r_int) (rv 5)) ra_nil)))) (rss_one (rs_if (rt_b (rb_and (rt_chain op_le op_lt r_int (r_ix (k_ix (K := K)) (rv 6) r_int) (rv 0)) (rb_and1 (rt_chain op_le op_lt r_int (r_ix (k_ix (K := K)) (rv 6) r_int) (rv 1))))) (rss_one (rs_expr (kr_bm (K := K) PySem.F.plainAttrs_list PySem.F.slot_list_append PySem.F.type_list_append mt_append (rv 3) (ra_cons (rv 6) ra_nil)))) rss_nil)))) (rss_one (rs_ret (rv 3))))), ?_⟩
    refine seq_mid (fun σ H1 => ∃ p, H p = none ∧ Same H H1 ∧ H1 p = some (.lst []) ∧ σ = [some (.int h), some (.int w), some v, some (.ref p), none, none, none]) (fun R hR => ?_) ?_
    · exact ⟨by decide, fun p hp => hR _ _ ⟨p, hp, Same.put hp, upd_same, rfl⟩⟩
    rintro σ H1 ⟨p, np, s1, hp, rfl⟩
    refine seq_mid (fun σ H3 => ∃ v4 v5 v6, Fr K H H3 p ((lnear h w x).map cellD) ∧ σ = [some (.int h), some (.int w), some v, some (.ref p), v4, v5, v6]) (fun R hR => ?_) ?_
    · refine for_disp ?_
      refine disp_cons (K := K) (-1) (-1) (fun _ q => ⟨_, rfl, q⟩) (fun _ q => ⟨_, rfl, q⟩) fun u1 G1 t1 d1 => ?_
      refine disp_cons (K := K) (-1) 0 (fun _ q => ⟨_, rfl, q⟩) (fun _ q => q) fun u2 G2 t2 d2 => ?_
      refine disp_cons (K := K) (-1) 1 (fun _ q => ⟨_, rfl, q⟩) (fun _ q => q) fun u3 G3 t3 d3 => ?_
      refine disp_cons (K := K) 0 (-1) (fun _ q => q) (fun _ q => ⟨_, rfl, q⟩) fun u4 G4 t4 d4 => ?_
      refine disp_cons (K := K) 0 1 (fun _ q => q) (fun _ q => q) fun u5 G5 t5 d5 => ?_
      refine disp_cons (K := K) 1 (-1) (fun _ q => q) (fun _ q => ⟨_, rfl, q⟩) fun u6 G6 t6 d6 => ?_
      refine disp_cons (K := K) 1 0 (fun _ q => q) (fun _ q => q) fun u7 G7 t7 d7 => ?_
      refine disp_cons (K := K) 1 1 (fun _ q => q) (fun _ q => q) fun u8 G8 t8 d8 => ?_
      refine ⟨sz rfl, fun q hq' => ?_⟩
      have t9 := Same.put (o := .lst [u1, u2, u3, u4, u5, u6, u7, u8]) hq'
      have D : Dens K (upd G8 q (.lst [u1, u2, u3, u4, u5, u6, u7, u8])) [u1, u2, u3, u4, u5, u6, u7, u8] (offs.map cellD) := by
        have r8 := t9
        have r7 := t8.trans r8
        have r6 := t7.trans r7
        have r5 := t6.trans r6
        have r4 := t5.trans r5
        have r3 := t4.trans r4
        have r2 := t3.trans r3
        have r1 := t2.trans r2
        exact .cons (d1.mono r1) (.cons (d2.mono r2) (.cons (d3.mono r3) (.cons (d4.mono r4) (.cons (d5.mono r5) (.cons (d6.mono r6) (.cons (d7.mono r7) (.cons (d8.mono r8) .nil)))))))
      have tA := s1.trans (t1.trans (t2.trans (t3.trans (t4.trans (t5.trans (t6.trans (t7.trans (t8.trans t9))))))))
      have hp9 := (t1.trans (t2.trans (t3.trans (t4.trans (t5.trans (t6.trans (t7.trans (t8.trans t9)))))))) _ _ hp
      have nqp : q ≠ p := (ne_of_none ((t1.trans (t2.trans (t3.trans (t4.trans (t5.trans (t6.trans (t7.trans t8))))))) _ _ hp) hq').symm
      refine ⟨q, rfl, ⟨_, SqL.of upd_same⟩, ?_⟩
      refine for_list (K := K) (xs := [u1, u2, u3, u4, u5, u6, u7, u8]) (fun i σ H' => ∃ l v4 v5 v6, SameBut p (upd G8 q (.lst [u1, u2, u3, u4, u5, u6, u7, u8])) H' ∧ H' p = some (.lst l) ∧ Dens K H' l ((((offs.take i).map fun d => (x.1 + d.1, x.2 + d.2)).filter fun y => decide (inF h w y)).map cellD) ∧
        σ = [some (.int h), some (.int w), some v, some (.ref p), v4, v5, v6]) ⟨[], none, none, none, .refl _ _, hp9, .nil, rfl⟩ (fun i σ H' _ hh => ?_) (fun i u σ H' hu hh => ?_) (fun σ H' hh => ?_)
      · obtain ⟨l, _, _, _, sb, _⟩ := hh
        exact sb.seq upd_same nqp
      · obtain ⟨l, v4, v5, v6, sb, hl, Dl, rfl⟩ := hh
        obtain ⟨d, ed, du⟩ := D.get hu
        rw [List.getElem?_map] at ed
        obtain ⟨o, eo, rfl⟩ := Option.map_eq_some_iff.mp ed
        have dv' : Den K H' v (cellD x) := sb.cell hp9 (dv.mono tA)
        refine rd_two (sb.cell hp9 du) ?_
        refine ⟨_, rfl, rd_fst dv' ⟨_, rfl, _, rfl, rd_snd dv' ⟨_, rfl, sz rfl, fun t ht => ?_⟩⟩⟩
        have st := Same.put (o := .tup [V.int (x.1 + o.1), V.int (x.2 + o.2)]) ht
        have d1' : Den K (upd H' t (.tup [V.int (x.1 + o.1), V.int (x.2 + o.2)])) (.ref t) (cellD (x.1 + o.1, x.2 + o.2)) := den_cell
        have tk : offs.take (i + 1) = offs.take i ++ [o] := by rw [List.take_succ, eo]; rfl
        have hll : l.length ≤ 8 := by
          rw [Dl.length, List.length_map]
          refine Nat.le_trans (List.length_filter_le _ _) ?_
          rw [List.length_map, List.length_take]
          exact Nat.min_le_right _ _
        have out : ∀ b : Bool, b = decide (inF h w (x.1 + o.1, x.2 + o.2)) → (((offs.take (i + 1)).map fun d => (x.1 + d.1, x.2 + d.2)).filter fun y => decide (inF h w y)) = (((offs.take i).map fun d => (x.1 + d.1, x.2 + d.2)).filter fun y => decide (inF h w y)) ++ (if b = true then [(x.1 + o.1, x.2 + o.2)] else []) := by
          intro b hb
          rw [tk, List.map_append, List.filter_append, hb]
          congr 1
          by_cases hin : inF h w (x.1 + o.1, x.2 + o.2) <;> simp [hin]
        refine ⟨_, rfl, rd_fst d1' ⟨_, _, rfl, rfl, _, rfl, chain_lt (m := h) (fun _ q => ⟨_, rfl, q⟩) ?_⟩⟩
        have fin0 : ¬ inF h w (x.1 + o.1, x.2 + o.2) → ∃ l v4 v5 v6, SameBut p (upd G8 q (.lst [u1, u2, u3, u4, u5, u6, u7, u8])) (upd H' t (.tup [V.int (x.1 + o.1), V.int (x.2 + o.2)])) ∧ (upd H' t (.tup [V.int (x.1 + o.1), V.int (x.2 + o.2)])) p = some (.lst l) ∧ Dens K (upd H' t (.tup [V.int (x.1 + o.1), V.int (x.2 + o.2)])) l ((((offs.take (i + 1)).map fun d => (x.1 + d.1, x.2 + d.2)).filter fun y => decide (inF h w y)).map cellD) ∧
            [some (.int h), some (.int w), some v, some (.ref p), some (.int o.1), some (.int o.2), some (.ref t)] = [some (.int h), some (.int w), some v, some (.ref p), v4, v5, v6] := fun hn => by
          refine ⟨l, _, _, _, sb.and ht, st _ _ hl, ?_, rfl⟩
          rw [out false (decide_eq_false hn).symm]
          simpa using Dl.mono st
        refine ite_b (fun h1 => ?_) (fun h1 => fin0 fun hin => by rw [decide_eq_true hin.1] at h1; cases h1)
        refine ⟨_, rfl, rd_snd d1' ⟨_, _, rfl, rfl, _, rfl, chain_lt (m := w) (fun _ q => ⟨_, rfl, q⟩) ?_⟩⟩
        refine ite_b (fun h2 => ?_) (fun h2 => fin0 fun hin => by rw [decide_eq_true hin.2] at h2; cases h2)
        refine ⟨_, rfl, .inl ⟨rfl, _, SqL.of (st _ _ hl)⟩, _, rfl, p, l, _, rfl, rfl, st _ _ hl, ltl (by omega), ?_⟩
        refine ⟨l ++ [.ref t], _, _, _, (sb.and ht).put, upd_same, ?_, rfl⟩
        rw [out true (decide_eq_true ⟨of_decide_eq_true h1, of_decide_eq_true h2⟩).symm, List.map_append]
        exact ((SameBut.refl p _).put.cells (st _ _ hl) (Dl.mono st)).append (.cons ((SameBut.refl p _).put.cell (st _ _ hl) d1') .nil)
      · obtain ⟨l, v4, v5, v6, sb, hl, Dl, rfl⟩ := hh
        exact hR _ _ ⟨v4, v5, v6, ⟨sb.of tA np, np, ⟨l, hl, Dl⟩⟩, rfl⟩
    rintro σ H3 ⟨v4, v5, v6, fr, rfl⟩
    exact ⟨_, rfl, hq p H3 fr⟩
end
end My
set_option Elab.async false
set_option linter.all false
set_option maxRecDepth 100000
set_option maxHeartbeats 1000000
namespace My
open PySem L2
def spFig (K : PySem.W.Frag) : Sp := fun vs H Q _ => ∃ (h w : Int) (p : Addr) (v : V) (st : List Cell) (x : Cell), vs = [.int h, .int w, .ref p, v] ∧ Den K H (.ref p) (.lst (st.map cellD)) ∧ Den K H v (cellD x) ∧ ∀ H', Same H H' → Q (.int (figN h w st x)) H'
def spField (K : PySem.W.Frag) : Sp := fun vs H Q _ => ∃ (a : Addr) (ns : List Int) (m : Int), vs = [.ref a, .int m] ∧ SqL K H a (ns.map V.int) ∧ 1 ≤ m ∧ m ≤ 6 ∧ ∀ (t p : Addr) (H' : Hp) (h w : Nat) (st : List Cell), Same H H' → H p = none → SqT K H' t [.int h, .int w, .ref p] → Ls K H' p (st.map cellD) →
  1 ≤ h → (h : Int) ≤ m → 1 ≤ w → (w : Int) ≤ m → st.Sublist (fieldL h w) → Q (.ref t) H'
section
variable {P : Program} {w : World} {K : PySem.W.Frag} {mg : Str → Option Value} {base : Heap} {Z : Adr}
theorem ok_figure {f : Addr} {fd : FuncData} (F : Fun K "_law_figure" "_law_figure" s__law_figure f fd) (T : Txt K mg Z) (D__law_near : Df P w K mg base 1 "_law_near" ["height", "width", "cell"] (spNear K)) : FnOk P w K mg base (CXE P w) 2 f fd ["height", "width", "stones", "cell"] (spFig K) := by
  refine F.rok sc__law_figure (fun vs H Q E h => ?_) (fun cdv A outer s H vs Q E hr h => ?_)
  · obtain ⟨h, w, p, v, st, x, rfl, _⟩ := h; rfl
  · obtain ⟨h, w, p, v, st, x, rfl, dp, dv, hq⟩ := h
    have hu' := hu61 hr
    refine ⟨_, (rss_one (rs_ret (r_callB (k_len (K := K)) rfl T.b_len bt_len (ra_cons (r_comp (by rfl) rfl (kri_list (K := K) (r_def D__law_near hr rfl passE (ra_cons (rv 0) (ra_cons (rv 1) (ra_cons (rv 3) ra_nil))))) (fun _ _ _ => (rif_one (rt_cmp (op_in_str.or (k_inD (K := K) hu')) (rv 0) (rv 3) (by rfl)))) (fun _ _ _ => (rv 0))) ra_nil)))), ?_⟩
    refine ⟨_, rfl, _, rfl, _, rfl, h, w, v, x, rfl, dv, fun q H1 fr => ?_⟩
    obtain ⟨xs, eq, D⟩ := fr.ls
    refine ⟨q, rfl, ⟨_, SqL.of eq⟩, comp_den (K := K) (xs := lnear h w x) (enc := cellD) (over_list (SqL.of eq)) D (small (by have := lnear_len h w x; omega)) (fun y => decide (y ∈ st)) cellD (fun y hy v H2 s2 d G hG => ?_) (fun y hy _ v H2 s2 d G hG => ⟨_, rfl, hG _ _ (Same.refl _) d⟩) (fun ys H2 s2 D2 q2 hq2 => ?_)⟩
    · exact ⟨_, rfl, _, rfl, .inr (rd_in d (dp.mono (fr.same.trans s2)) ⟨_, rfl, hG _ (Same.refl _)⟩)⟩
    · refine .inl ⟨q2, _, rfl, .inl (SqL.of upd_same), ?_⟩
      have e : ys.length = figN h w st x := by rw [D2.length, List.length_map]; rfl
      rw [e]
      exact hq _ (fr.same.trans (s2.and hq2))
end
end My
set_option Elab.async false
set_option linter.all false
set_option maxRecDepth 100000
set_option maxHeartbeats 1000000
namespace My
open PySem L2
section
variable {P : Program} {w : World} {K : PySem.W.Frag} {mg : Str → Option Value} {base : Heap} {Z : Adr}
theorem ok_field {f : Addr} {fd : FuncData} (F : Fun K "_law_field_by" "_law_field_by" s__law_field_by f fd) (T : Txt K mg Z) (D__law_cell_at : Df P w K mg base 1 "_law_cell_at" ["script", "k"] (spCell K)) (D__law_mix : Df P w K mg base 1 "_law_mix" ["cell", "k", "many"] spMix) :
    FnOk P w K mg base (CXE P w) 2 f fd ["script", "most"] (spField K) := by
  refine F.rok sc__law_field_by (fun vs H Q E h => ?_) (fun cdv A outer s H vs Q E hr h => ?_)
  · obtain ⟨a, ns, m, rfl, _⟩ := h; rfl
  · obtain ⟨a, ns, m, rfl, hS, m1, m6, hq⟩ := h
    have hu := hu60 hr
    refine ⟨_, (rss_cons (rs_set (i := 2) sc__law_field_by.nd rfl (by first | exact Or.inl rfl | exact Or.inr rfl) (r_def D__law_cell_at hr rfl passE (ra_cons (rv 0) (ra_cons r_int ra_nil)))) (rss_cons (rs_par (i := 3) (j := 4) rfl sc__law_field_by.nd rfl rfl (by decide) rfl rfl (ra_cons (r_op op_addG r_int (r_def D__law_mix hr rfl passE (ra_cons (rv 2) (ra_cons r_int (ra_cons (rv 1) ra_nil))))) (ra_cons (r_op op_addG r_int (r_def D__law_mix hr rfl passE (ra_cons (rv 2) (ra_cons r_int (ra_cons (rv 1) ra_nil))))) ra_nil)) rfl) (rss_cons (rs_set (i := 5) sc__law_field_by.nd rfl (by first | exact Or.inl rfl | exact Or.inr rfl) (r_ix (k_ix (K := K)) (r_lst (ra_cons r_int (ra_cons r_int (ra_cons r_int ra_nil)))) (r_def D__law_mix hr rfl passE (ra_cons (rv 2) (ra_cons r_int (ra_cons r_int ra_nil)))))) (rss_cons (rs_set (i := 6) sc__law_field_by.nd rfl (by first | exact Or.inl rfl | exact Or.inr rfl) (r_lst ra_nil)) (rss_cons (rs_for PassesOwn.never rfl (ri_range1 rfl T.b_range (ra_cons (rv 3) ra_nil)) (rg_name (i := 7) sc__law_field_by.nd rfl (by first | exact Or.inl rfl | exact Or.inr rfl)) (rss_one (rs_for PassesOwn.never rfl (ri_range1 rfl T.b_range (ra_cons (rv 4) ra_nil)) (rg_name (i := 8) sc__law_field_by.nd rfl (by first | exact Or.inl rfl | exact Or.inr rfl)) (rss_one (rs_if (rt_cmp (op_eq.or (k_eqD (K := K) hu)) (r_def D__law_mix hr rfl passE (ra_cons (r_def D__law_cell_at hr rfl passE (ra_cons (rv 0) (ra_cons (r_op op_addG r_int (rv 7)) ra_nil))) (ra_cons (rv 8) (ra_cons (rv 5) ra_nil)))) r_int (nomark _)) (rss_one (rs_expr (kr_bm (K := K) PySem.F.plainAttrs_list PySem.F.slot_list_append PySem.F.type_list_append mt_append (rv 6) (ra_cons (r_tup (ra_cons (rv 7) (ra_cons (rv 8) ra_nil))) ra_nil)))) rss_nil))))) (rss_one (rs_ret (r_tup (ra_cons (rv 3) (ra_cons (rv 4) (ra_cons (rv 6) ra_nil))))))))))), ?_⟩
    refine seq_mid (fun σ H1 => ∃ c : Int, Same H H1 ∧ σ = [some (.ref a), some (.int m), some (.int c), none, none, none, none, none, none]) (fun R hR => ?_) ?_
    · exact ⟨_, rfl, a, ns, 0, rfl, by decide, hS, fun r => hR _ _ ⟨r, Same.refl _, rfl⟩⟩
    rintro σ H1 ⟨c, s1, rfl⟩
    refine seq_mid (fun σ H2 => ∃ h w : Nat, Same H H2 ∧ (1 ≤ h ∧ (h : Int) ≤ m) ∧ (1 ≤ w ∧ (w : Int) ≤ m) ∧ σ = [some (.ref a), some (.int m), some (.int c), some (.int h), some (.int w), none, none, none, none]) (fun R hR => ?_) ?_
    · refine ⟨_, rfl, _, rfl, _, 1, _, rfl, by omega, fun r1 H1 a1 b1 t1 => ?_⟩
      refine ⟨_, rfl, _, rfl, _, 2, _, rfl, by omega, fun r2 H2 a2 b2 t2 => ?_⟩
      refine ⟨_, _, rfl, hR _ _ ⟨(1 + r1).toNat, (1 + r2).toNat, s1.trans (t1.trans t2), by omega, by omega, ?_⟩⟩
      rw [Int.toNat_of_nonneg (by omega), Int.toNat_of_nonneg (by omega)]; rfl
    rintro σ H2 ⟨h, w, s2, bh, bw, rfl⟩
    refine seq_mid (fun σ H3 => ∃ t : Int, 0 < t ∧ Same H H3 ∧ σ = [some (.ref a), some (.int m), some (.int c), some (.int h), some (.int w), some (.int t), none, none, none]) (fun R hR => ?_) ?_
    · refine ⟨sz rfl, fun l hl => ?_⟩
      have t1 := Same.put (o := .lst [V.int 3, V.int 5, V.int 9]) hl
      refine ⟨_, rfl, _, 3, 3, rfl, by decide, fun r H3 a3 b3 t3 => ?_⟩
      obtain ⟨v, hv, e⟩ := atI_of (xs := ([3, 5, 9] : List Int).map V.int) (i := r) a3 (by simpa using b3)
      obtain ⟨n, hn, rfl⟩ := List.mem_map.mp hv
      refine .inl ⟨l, _, _, _, rfl, rfl, SqL.of (t3 _ _ upd_same), e, hR _ _ ⟨n, ?_, s2.trans (t1.trans t3), rfl⟩⟩
      exact (by decide : ∀ x ∈ ([3, 5, 9] : List Int), 0 < x) n hn
    rintro σ H3 ⟨t, ht, s3, rfl⟩
    refine seq_mid (fun σ H4 => ∃ p, H p = none ∧ Same H H4 ∧ H4 p = some (.lst []) ∧ σ = [some (.ref a), some (.int m), some (.int c), some (.int h), some (.int w), some (.int t), some (.ref p), none, none]) (fun R hR => ?_) ?_
    · exact ⟨by decide, fun p hp => hR _ _ ⟨p, s3.free hp, s3.and hp, upd_same, rfl⟩⟩
    rintro σ H4 ⟨p, np, s4, hp, rfl⟩
    have h6 : h ≤ 6 := by omega
    have w6 : w ≤ 6 := by omega
    refine seq_mid (fun σ H5 => ∃ (st : List Cell) (v7 v8 : Option V), Same H H5 ∧ Ls K H5 p (st.map cellD) ∧ st.Sublist (fieldL h w) ∧ σ = [some (.ref a), some (.int m), some (.int c), some (.int h), some (.int w), some (.int t), some (.ref p), v7, v8]) (fun R hR => ?_) ?_
    · refine ⟨_, rfl, _, rfl, by omega, by omega, ?_⟩
      rw [Int.toNat_natCast]
      refine for_range (lo := 0) (n := h) (fun i σ H' => ∃ (st : List Cell) (v7 v8 : Option V), Same H H' ∧ Ls K H' p (st.map cellD) ∧ st.Sublist (fieldL i w) ∧ σ = [some (.ref a), some (.int m), some (.int c), some (.int h), some (.int w), some (.int t), some (.ref p), v7, v8])
        ⟨[], none, none, s4, ⟨[], hp, .nil⟩, List.nil_sublist _, rfl⟩ (fun i σ H' hi hh => ?_) (fun σ H' hh => hR _ _ hh)
      obtain ⟨st, v7, v8, g1, g2, g3, rfl⟩ := hh
      refine ⟨_, rfl, _, rfl, by omega, by omega, ?_⟩
      rw [Int.toNat_natCast]
      refine for_range (lo := 0) (n := w) (fun j σ H' => ∃ (st : List Cell) (v8 : Option V), Same H H' ∧ Ls K H' p (st.map cellD) ∧ st.Sublist (fieldL i w ++ (List.range j).map fun c : Nat => ((i : Int), (c : Int))) ∧ σ = [some (.ref a), some (.int m), some (.int c), some (.int h), some (.int w), some (.int t), some (.ref p), some (.int (0 + i)), v8])
        ⟨st, v8, g1, g2, by simpa using g3, rfl⟩ (fun j σ H' hj hh => ?_) (fun σ H' hh => ?_)
      · obtain ⟨st, v8, g1, g2, g3, rfl⟩ := hh
        have step : fieldL i w ++ (List.range (j + 1)).map (fun c : Nat => ((i : Int), (c : Int))) = (fieldL i w ++ (List.range j).map fun c : Nat => ((i : Int), (c : Int))) ++ [((i : Int), (j : Int))] := by
          rw [List.range_succ, List.map_append, ← List.append_assoc]; rfl
        have hl := g3.length_le
        rw [List.length_append, field_len, List.length_map, List.length_range] at hl
        have hl2 : i * w ≤ 6 * 6 := Nat.mul_le_mul (by omega) w6
        refine ⟨_, rfl, _, rfl, a, ns, _, rfl, by omega, g1.seq hS, fun r => ?_⟩
        refine ⟨_, rfl, _, rfl, _, _, _, rfl, ht, fun r2 H6 a6 b6 t6 => .inl ⟨rfl, _, rfl, ?_⟩⟩
        refine ite2 (fun _ => ?_) (fun _ => ?_)
        · refine ⟨_, rfl, .inl ⟨rfl, _, SqL.of (t6 _ _ g2.choose_spec.1)⟩, ?_⟩
          obtain ⟨xs, ex, D⟩ := g2
          refine ⟨_, rfl, _, rfl, sz rfl, fun u hu => ?_⟩
          have su := Same.put (o := .tup [V.int (0 + i), V.int (0 + j)]) hu
          refine ⟨p, xs, _, rfl, rfl, su _ _ (t6 _ _ ex), ltl (by rw [D.length, List.length_map]; omega), ?_⟩
          refine ⟨st ++ [((i : Int), (j : Int))], _, ?_, ⟨xs ++ [.ref u], upd_same, ?_⟩, ?_, rfl⟩
          · exact (SameBut.refl p _).put.of (g1.trans (t6.trans su)) np
          · rw [List.map_append]
            refine ((SameBut.refl p _).put.cells (su _ _ (t6 _ _ ex)) ((D.mono t6).mono su)).append (.cons ((SameBut.refl p _).put.cell (su _ _ (t6 _ _ ex)) ?_) .nil)
            rw [Int.zero_add, Int.zero_add]; exact den_cell
          · rw [step]; exact g3.append (List.Sublist.refl _)
        · refine ⟨st, _, g1.trans t6, g2.mono t6, ?_, rfl⟩
          rw [step]; exact g3.trans (List.sublist_append_left _ _)
      · obtain ⟨st, v8, g1, g2, g3, rfl⟩ := hh
        exact ⟨st, _, _, g1, g2, by rw [field_succ]; exact g3, rfl⟩
    rintro σ H5 ⟨st, v7, v8, g1, g2, g3, rfl⟩
    refine ⟨_, rfl, _, rfl, _, rfl, sz rfl, fun u hu => ?_⟩
    exact hq u p _ h w st (g1.and hu) np (SqT.of upd_same) (g2.mono (Same.put hu)) bh.1 bh.2 bw.1 bw.2 g3
end
end My
set_option Elab.async false
set_option linter.all false
set_option maxRecDepth 100000
set_option maxHeartbeats 1000000
namespace My
open PySem L2
def spShown (K : PySem.W.Frag) : Sp := fun vs H Q _ => ∃ (h w : Nat) (p q : Addr) (st kn : List Cell), vs = [.int h, .int w, .ref p, .ref q] ∧ h ≤ 6 ∧ w ≤ 6 ∧ Den K H (.ref p) (.lst (st.map cellD)) ∧ Den K H (.ref q) (.lst (kn.map cellD)) ∧
  ∀ r H', Same H H' → H r = none → H' r = some (.lst ((shownL h w st kn).map V.str)) → Q (.ref r) H'
def spOpened (K : PySem.W.Frag) : Sp := fun vs H Q _ => ∃ (h w : Nat) (p q : Addr) (v : V) (st kn : List Cell) (x : Cell), vs = [.int h, .int w, .ref p, .ref q, v] ∧ h ≤ 6 ∧ w ≤ 6 ∧ Den K H (.ref p) (.lst (st.map cellD)) ∧ Den K H (.ref q) (.lst (kn.map cellD)) ∧ Den K H v (cellD x) ∧ inF h w x ∧
  ∀ r H' (cs : List Cell), Fr K H H' r (cs.map cellD) → cs.Nodup → (∀ y, y ∈ cs ↔ Reach h w st kn x y) → Q (.ref r) H'
section
variable {P : Program} {w : World} {K : PySem.W.Frag} {mg : Str → Option Value} {base : Heap} {Z : Adr}
theorem ok_shown {f : Addr} {fd : FuncData} (F : Fun K "_law_shown" "_law_shown" s__law_shown f fd) (T : Txt K mg Z) (D__law_figure : Df P w K mg base 2 "_law_figure" ["height", "width", "stones", "cell"] (spFig K)) : FnOk P w K mg base (CXE P w) 3 f fd ["height", "width", "stones", "known"] (spShown K) := by
  refine F.rok sc__law_shown (fun vs H Q E h => ?_) (fun cdv A outer s H vs Q E hr h => ?_)
  · obtain ⟨h, w, p, q, st, kn, rfl, _⟩ := h; rfl
  · obtain ⟨h, w, p, q, st, kn, rfl, h6, w6, dp, dq, hq⟩ := h
    have hu' := hu61 hr
    refine ⟨_, (rss_cons (rs_set (i := 4) sc__law_shown.nd rfl (by first | exact Or.inl rfl | exact Or.inr rfl) (r_lst ra_nil)) (rss_cons (rs_for PassesOwn.never rfl (ri_range1 rfl T.b_range (ra_cons (rv 0) ra_nil)) (rg_name (i := 5) sc__law_shown.nd rfl (by first | exact Or.inl rfl | exact Or.inr rfl)) (rss_cons (rs_set (i := 6) sc__law_shown.nd rfl (by first | exact Or.inl rfl | exact Or.inr rfl) r_str) (rss_cons (rs_for PassesOwn.never rfl (ri_range1 rfl T.b_range (ra_cons (rv 1) ra_nil)) (rg_name (i := 7) sc__law_shown.nd rfl (by first | exact Or.inl rfl | exact Or.inr rfl)) (rss_one (rs_set (i := 6) sc__law_shown.nd rfl (by first | exact Or.inl rfl | exact Or.inr rfl) (r_op op_addG (rv 6) (r_ix (k_ix (K := K)) (r_lst (ra_cons r_str (ra_cons (r_callTy call_str_int rfl T.b_str bt_str (ra_cons (r_def D__law_figure hr rfl passE (ra_cons (rv 0) (ra_cons (rv 1) (ra_cons (rv 2) (ra_cons (r_tup (ra_cons (rv 5) (ra_cons (rv 7) ra_nil))) ra_nil))))) ra_nil)) ra_nil))) (r_callTy call_int1 rfl T.b_int bt_int (ra_cons (r_cmp (op_in_str.or (k_inD (K := K) hu')) (r_tup (ra_cons (rv 5) (ra_cons (rv 7) ra_nil))) (rv 3) (by rfl)) ra_nil))))))) (rss_one (rs_expr (kr_bm (K := K) PySem.F.plainAttrs_list PySem.F.slot_list_append PySem.F.type_list_append mt_append (rv 4) (ra_cons (rv 6) ra_nil))))))) (rss_one (rs_ret (rv 4))))), ?_⟩
    refine seq_mid (fun σ H1 => ∃ l, H l = none ∧ Same H H1 ∧ H1 l = some (.lst []) ∧ σ = [some (.int h), some (.int w), some (.ref p), some (.ref q), some (.ref l), none, none, none]) (fun R hR => ?_) ?_
    · exact ⟨by decide, fun l hl => hR _ _ ⟨l, hl, Same.put hl, upd_same, rfl⟩⟩
    rintro σ H1 ⟨l, nl, s1, hl, rfl⟩
    refine seq_mid (fun σ H2 => ∃ (v5 v6 v7 : Option V), Same H H2 ∧ H2 l = some (.lst ((shownL h w st kn).map V.str)) ∧ σ = [some (.int h), some (.int w), some (.ref p), some (.ref q), some (.ref l), v5, v6, v7]) (fun R hR => ?_) ?_
    · refine ⟨_, rfl, _, rfl, by omega, by omega, ?_⟩
      rw [Int.toNat_natCast]
      refine for_range (lo := 0) (n := h) (fun i σ H' => ∃ (v5 v6 v7 : Option V), Same H H' ∧ H' l = some (.lst (((List.range i).map fun r : Nat => rowN h w st kn (r : Int) w).map V.str)) ∧ σ = [some (.int h), some (.int w), some (.ref p), some (.ref q), some (.ref l), v5, v6, v7])
        ⟨none, none, none, s1, hl, rfl⟩ (fun i σ H' hi hh => ?_) (fun σ H' hh => hR _ _ hh)
      obtain ⟨v5, v6, v7, g1, g2, rfl⟩ := hh
      refine seq_mid (fun σ H3 => Same H H3 ∧ H3 l = some (.lst (((List.range i).map fun r : Nat => rowN h w st kn (r : Int) w).map V.str)) ∧ σ = [some (.int h), some (.int w), some (.ref p), some (.ref q), some (.ref l), some (.int (0 + i)), some (.str ""), v7]) (fun R' hR' => hR' _ _ ⟨g1, g2, rfl⟩) ?_
      rintro σ H3 ⟨k1, k2, rfl⟩
      refine seq_mid (fun σ H4 => ∃ v7 : Option V, Same H H4 ∧ H4 l = some (.lst (((List.range i).map fun r : Nat => rowN h w st kn (r : Int) w).map V.str)) ∧ σ = [some (.int h), some (.int w), some (.ref p), some (.ref q), some (.ref l), some (.int (0 + i)), some (.str (rowN h w st kn i w)), v7]) (fun R' hR' => ?_) ?_
      · refine ⟨_, rfl, _, rfl, by omega, by omega, ?_⟩
        rw [Int.toNat_natCast]
        refine for_range (lo := 0) (n := w) (fun j σ H' => ∃ v7 : Option V, Same H H' ∧ H' l = some (.lst (((List.range i).map fun r : Nat => rowN h w st kn (r : Int) w).map V.str)) ∧ σ = [some (.int h), some (.int w), some (.ref p), some (.ref q), some (.ref l), some (.int (0 + i)), some (.str (rowN h w st kn i j)), v7])
          ⟨v7, k1, k2, rfl⟩ (fun j σ H' hj hh => ?_) (fun σ H' hh => hR' _ _ hh)
        obtain ⟨v7, m1, m2, rfl⟩ := hh
        have fl := figN_le h w st (0 + (i : Int), 0 + (j : Int))
        refine ⟨_, rfl, _, rfl, _, rfl, _, rfl, _, rfl, _, rfl, sz rfl, fun t ht => ?_⟩
        have st1 := Same.put (o := .tup [V.int (0 + i), V.int (0 + j)]) ht
        refine ⟨h, w, p, _, st, (0 + (i : Int), 0 + (j : Int)), rfl, dp.mono (m1.trans st1), den_cell, fun H5 s5 => ?_⟩
        refine ⟨_, rfl, dig_log _ fl, sz rfl, fun u hu => ?_⟩
        have s6 := Same.put (o := .lst [V.str "#", V.str (Str.ofString (toString ((figN h w st (0 + (i : Int), 0 + (j : Int)) : Nat) : Int)))]) hu
        refine ⟨_, rfl, _, rfl, sz rfl, fun t2 ht2 => ?_⟩
        have s7 := Same.put (o := .tup [V.int (0 + i), V.int (0 + j)]) ht2
        have sA := st1.trans (s5.trans (s6.trans s7))
        refine ⟨_, rfl, .inr (rd_in den_cell (dq.mono (m1.trans sA)) (.inr ⟨_, rfl, ?_⟩))⟩
        have e0 : ((0 : Int) + (i : Int), (0 : Int) + (j : Int)) = ((i : Int), (j : Int)) := by rw [Int.zero_add, Int.zero_add]
        have fin : ∀ z : Str, z = ⟨#[sgnN h w st kn (0 + (i : Int), 0 + (j : Int))]⟩ → rAddG (.str (rowN h w st kn i j)) (.str z) (upd (upd H5 u (.lst [V.str "#", V.str (Str.ofString (toString ((figN h w st (0 + (i : Int), 0 + (j : Int)) : Nat) : Int)))])) t2 (.tup [V.int (0 + i), V.int (0 + j)]))
            (fun x H1 => ∃ v7 : Option V, Same H H1 ∧ H1 l = some (.lst (((List.range i).map fun r : Nat => rowN h w st kn (r : Int) w).map V.str)) ∧ ([some (.int h), some (.int w), some (.ref p), some (.ref q), some (.ref l), some (.int (0 + i)), some (.str (rowN h w st kn i j)), some (.int (0 + j))] : L2.St).set 6 (some x) = [some (.int h), some (.int w), some (.ref p), some (.ref q), some (.ref l), some (.int (0 + i)), some (.str (rowN h w st kn i (j + 1))), v7]) := by
          intro z hz
          subst hz
          refine ⟨?_, some (.int (0 + (j : Int))), m1.trans sA, sA _ _ m2, ?_⟩
          · rw [row_len]; exact small (by show j + 1 ≤ 10000; omega)
          · rw [row_succ, ← e0]; rfl
        have ed := dig _ fl
        by_cases hk : (0 + (i : Int), 0 + (j : Int)) ∈ kn
        · rw [decide_eq_true hk]
          exact .inl ⟨u, _, _, _, rfl, rfl, SqL.of (s7 _ _ upd_same), atI_nat (j := 1) rfl, fin _ (by rw [ed]; unfold sgnN; rw [if_pos hk])⟩
        · rw [decide_eq_false hk]
          exact .inl ⟨u, _, _, _, rfl, rfl, SqL.of (s7 _ _ upd_same), atI_zero, fin _ (by unfold sgnN; rw [if_neg hk]; decide)⟩
      rintro σ H4 ⟨v7, m1, m2, rfl⟩
      refine ⟨_, rfl, .inl ⟨rfl, _, SqL.of m2⟩, _, rfl, l, _, _, rfl, rfl, m2, ltl (by rw [List.length_map, List.length_map, List.length_range]; omega), ?_⟩
      refine ⟨_, _, _, (SameBut.refl l _).put.of m1 nl, ?_, rfl⟩
      rw [upd_same, List.range_succ, List.map_append, List.map_append]; rfl
    rintro σ H2 ⟨v5, v6, v7, g1, g2, rfl⟩
    exact ⟨_, rfl, hq l H2 g1 nl g2⟩
end
end My
set_option Elab.async false
set_option linter.all false
set_option maxRecDepth 100000
set_option maxHeartbeats 1000000
namespace My
open PySem L2
section
variable {P : Program} {w : World} {K : PySem.W.Frag} {mg : Str → Option Value} {base : Heap} {Z : Adr}
theorem ok_opened {f : Addr} {fd : FuncData} (F : Fun K "_law_opened" "_law_opened" s__law_opened f fd) (T : Txt K mg Z) (D__law_near : Df P w K mg base 1 "_law_near" ["height", "width", "cell"] (spNear K)) (D__law_figure : Df P w K mg base 2 "_law_figure" ["height", "width", "stones", "cell"] (spFig K)) :
    FnOk P w K mg base (CXE P w) 3 f fd ["height", "width", "stones", "known", "cell"] (spOpened K) := by
  refine F.rok sc__law_opened (fun vs H Q E h => ?_) (fun cdv A outer s H vs Q E hr h => ?_)
  · obtain ⟨h, w, p, q, v, st, kn, x, rfl, _⟩ := h; rfl
  · obtain ⟨h, w, p, q, v, st, kn, x, rfl, h6, w6, dp, dq, dv, hx, hq⟩ := h
    have hu := hu60 hr
    have hu' := hu61 hr
    refine ⟨_, (rss_cons (rs_set (i := 5) sc__law_opened.nd rfl (by first | exact Or.inl rfl | exact Or.inr rfl) (r_lst (ra_cons (rv 4) ra_nil))) (rss_cons (rs_set (i := 6) sc__law_opened.nd rfl (by first | exact Or.inl rfl | exact Or.inr rfl) r_int) (rss_cons (rs_while PassesOwn.never (rt_cmp op_lt (rv 6) (r_callB (k_len (K := K)) rfl T.b_len bt_len (ra_cons (rv 5) ra_nil)) (nomark _)) (rss_cons (rs_if (rt_cmp (op_eq.or (k_eqD (K := K) hu)) (r_def D__law_figure hr rfl passE (ra_cons (rv 0) (ra_cons (rv 1) (ra_cons (rv 2) (ra_cons (r_ix (k_ix (K := K)) (rv 5) (rv 6)) ra_nil))))) r_int (nomark _)) (rss_one (rs_set (i := 5) sc__law_opened.nd rfl (by first | exact Or.inl rfl | exact Or.inr rfl) (r_op op_addG (rv 5) (r_comp (by rfl) rfl (kri_list (K := K) (r_def D__law_near hr rfl passE (ra_cons (rv 0) (ra_cons (rv 1) (ra_cons (r_ix (k_ix (K := K)) (rv 5) (rv 6)) ra_nil))))) (fun _ _ _ => (rif_one (rt_b (rb_and (rt_cmp (op_notin_str.or (k_notInD (K := K) hu')) (rv 0) (rv 4) (by rfl)) (rb_and1 (rt_cmp (op_notin_str.or (k_notInD (K := K) hu')) (rv 0) (rv 6) (by rfl))))))) (fun _ _ _ => (rv 0)))))) rss_nil) (rss_one (rs_set (i := 6) sc__law_opened.nd rfl (by first | exact Or.inl rfl | exact Or.inr rfl) (r_op op_addG (rv 6) r_int))))) (rss_one (rs_ret (rv 5)))))), ?_⟩
    refine seq_mid (fun σ H1 => ∃ l, Fr K H H1 l ([x].map cellD) ∧ σ = [some (.int h), some (.int w), some (.ref p), some (.ref q), some v, some (.ref l), none]) (fun R hR => ?_) ?_
    · exact ⟨_, rfl, sz rfl, fun l hl => hR _ _ ⟨l, ⟨Same.put hl, hl, .new hl (.cons dv .nil)⟩, rfl⟩⟩
    rintro σ H1 ⟨l, fr, rfl⟩
    refine seq_mid (fun σ H2 => Same H1 H2 ∧ σ = [some (.int h), some (.int w), some (.ref p), some (.ref q), some v, some (.ref l), some (.int 0)]) (fun R hR => hR _ _ ⟨Same.refl _, rfl⟩) ?_
    rintro σ H2 ⟨s2, rfl⟩
    refine seq_mid (fun σ H3 => ∃ (l : Addr) (cs : List Cell) (v6 : Option V), Fr K H H3 l (cs.map cellD) ∧ OpInv h w st kn x cs cs.length ∧ σ = [some (.int h), some (.int w), some (.ref p), some (.ref q), some v, some (.ref l), v6]) (fun R hR => ?_) ?_
    · refine ⟨fun m σ H' => ∃ (l : Addr) (cs : List Cell) (n : Nat), Fr K H H' l (cs.map cellD) ∧ OpInv h w st kn x cs n ∧ m = 36 - n ∧ σ = [some (.int h), some (.int w), some (.ref p), some (.ref q), some v, some (.ref l), some (.int n)],
        ⟨36, l, [x], 0, ⟨fr.same.trans s2, fr.new, fr.ls.mono s2⟩, ⟨by simp, List.mem_singleton.mpr rfl, fun y hy => by rw [List.mem_singleton.mp hy]; exact .base, Nat.zero_le _, fun i y hi => absurd hi (Nat.not_lt_zero _)⟩, rfl, rfl⟩, ?_⟩
      rintro m σ H' ⟨l, cs, n, fr, o, rfl, rfl⟩
      obtain ⟨xs, ex, D⟩ := id fr.ls
      have lx : xs.length = cs.length := by rw [D.length, List.length_map]
      have c36 := o.len hx h6 w6
      refine ⟨_, rfl, _, rfl, .inl ⟨l, _, rfl, .inl (SqL.of ex), _, _, rfl, rfl, _, rfl, ?_⟩⟩
      rw [lx]
      refine ite2 (fun hlt => ?_) (fun hlt => ?_)
      · have hn : n < cs.length := by have := of_decide_eq_true hlt; omega
        have ec : cs[n]? = some cs[n] := by simp [hn]
        have exn : xs[n]? = some xs[n] := by simp [hn, lx]
        have dn : Den K H' xs[n] (cellD cs[n]) := by
          obtain ⟨d, ed, dd⟩ := D.get exn
          rw [List.getElem?_map, ec] at ed
          cases ed; exact dd
        refine ⟨fun σ' H2 => ∃ (l : Addr) (cs : List Cell), Fr K H H2 l (cs.map cellD) ∧ OpInv h w st kn x cs (n + 1) ∧ σ' = [some (.int h), some (.int w), some (.ref p), some (.ref q), some v, some (.ref l), some (.int ((n + 1 : Nat) : Int))], fun σ' H2 hh => ?_, ?_⟩
        · obtain ⟨l, cs, fr, o, rfl⟩ := hh
          exact ⟨36 - (n + 1), by omega, l, cs, n + 1, fr, o, rfl, rfl⟩
        refine seq_mid (fun σ H3 => ∃ (l : Addr) (cs : List Cell), Fr K H H3 l (cs.map cellD) ∧ OpInv h w st kn x cs (n + 1) ∧ σ = [some (.int h), some (.int w), some (.ref p), some (.ref q), some v, some (.ref l), some (.int n)]) (fun R' hR' => ?_) ?_
        · refine ⟨_, rfl, _, rfl, _, rfl, _, rfl, _, rfl, .inl ⟨l, _, _, _, rfl, rfl, SqL.of ex, atI_nat exn, ?_⟩⟩
          refine ⟨h, w, p, _, st, cs[n], rfl, dp.mono fr.same, dn, fun H3 s3 => .inl ⟨rfl, _, rfl, ?_⟩⟩
          rw [dec_v]
          refine ite2 (fun hz => ?_) (fun hz => ?_)
          · have fz : figN h w st cs[n] = 0 := by have := of_decide_eq_true hz; omega
            refine ⟨_, rfl, _, rfl, _, rfl, _, rfl, _, rfl, .inl ⟨l, _, _, _, rfl, rfl, SqL.of (s3 _ _ ex), atI_nat exn, ?_⟩⟩
            refine ⟨h, w, _, cs[n], rfl, dn.mono s3, fun q4 H4 f4 => ?_⟩
            obtain ⟨ys, ey, Dy⟩ := f4.ls
            have sA := fr.same.trans (s3.trans f4.same)
            refine ⟨q4, rfl, ⟨_, SqL.of ey⟩, comp_den (K := K) (xs := lnear h w cs[n]) (enc := cellD) (over_list (SqL.of ey)) Dy (small (by have := lnear_len h w cs[n]; omega)) (fun y => !decide (y ∈ kn) && !decide (y ∈ cs)) cellD (fun y hy u H5 s5 d G hG => ?_) (fun y hy _ u H5 s5 d G hG => ⟨_, rfl, hG _ _ (Same.refl _) d⟩) (fun us H5 s5 D5 q5 hq5 => ?_)⟩
            · have dk := dq.mono (sA.trans s5)
              have dl := (fr.ls.mono (s3.trans (f4.same.trans s5))).den
              have hg := hG H5 (Same.refl _)
              refine ⟨_, rfl, _, rfl, .inr (rd_notin d dk ⟨_, rfl, ?_⟩)⟩
              by_cases hk : y ∈ kn
              · rw [decide_eq_true hk] at hg ⊢
                exact iteF hg
              · rw [decide_eq_false hk] at hg ⊢
                refine iteT ⟨_, rfl, _, rfl, .inr (rd_notin d dl ⟨_, rfl, ?_⟩)⟩
                exact hg
            · have s6 := Same.put (o := .lst us) hq5
              have nl : ((lnear h w cs[n]).filter fun y => !decide (y ∈ kn) && !decide (y ∈ cs)).length ≤ 8 := Nat.le_trans (List.length_filter_le _ _) (lnear_len h w cs[n])
              refine rd_cat (fr.ls.mono (s3.trans (f4.same.trans (s5.trans s6)))) (Ls.new hq5 D5) (by rw [List.length_map, List.length_map]; omega) fun r H6 f6 => hR' _ _ ⟨r, _, ⟨sA.trans (s5.trans (s6.trans f6.same)), (sA.trans (s5.trans s6)).free f6.new, ?_⟩, o.grow ec fz, rfl⟩
              rw [List.map_append]; exact f6.ls
          · have fz : figN h w st cs[n] ≠ 0 := fun e => hz (decide_eq_true (by rw [e]; rfl))
            exact hR' _ _ ⟨l, cs, ⟨fr.same.trans s3, fr.new, fr.ls.mono s3⟩, o.skip ec fz, rfl⟩
        rintro σ H3 ⟨l, cs, fr, o, rfl⟩
        exact ⟨_, rfl, l, cs, fr, o, rfl⟩
      · have hn : n = cs.length := by
          have h1 := o.le
          have h2 : ¬ ((n : Int) < (cs.length : Int)) := fun z => hlt (decide_eq_true z)
          omega
        subst hn
        exact hR _ _ ⟨l, cs, _, fr, o, rfl⟩
    rintro σ H3 ⟨l, cs, v6, fr, o, rfl⟩
    exact ⟨_, rfl, hq l H3 cs fr o.nd o.done⟩
end
end My
set_option Elab.async false
set_option linter.all false
set_option maxRecDepth 100000
set_option maxHeartbeats 1000000
namespace My
open PySem L2
end My
set_option Elab.async false
set_option linter.all false
set_option maxRecDepth 100000
set_option maxHeartbeats 1000000
namespace My
open PySem L2
end My
set_option Elab.async false
set_option linter.all false
set_option maxRecDepth 100000
set_option maxHeartbeats 1000000
namespace My
open PySem L2
theorem Dens.strs' {K : PySem.W.Frag} {H : Hp} {α : Type} {g : α → Str} : ∀ xs : List α, Dens K H (xs.map (V.str ∘ g)) (xs.map fun x => Dt.str (g x))
  | [] => .nil
  | x :: xs => .cons (.str _) (Dens.strs' xs)
theorem signs_all {K : PySem.W.Frag} {H : Hp} {z : Str} {σ : L2.St} {Q : VK} {te : TE} (hz : z.length ≤ sizeLine)
    (ht : ∀ (c : Nat) (H' : Hp), ∀ G : VK, G (.bl (inS "#012345678" c)) H' → te (some (.str ⟨#[c]⟩) :: σ) H' G)
    (hq : ∀ H', Same H H' → Q (.bl (z.cps.toList.all (inS "#012345678"))) H') :
    ∃ W : Nat → Nat → List V → Hp → Prop, (∃ m, W 0 m [] H) ∧ CompW (Its z) tYes te σ (fun ys H2 => ∀ p, H2 p = none → ∃ (q : Addr) (bs : List Bool), [V.ref p] = [.ref q] ∧ SqL K (upd H2 p (.lst ys)) q (bs.map V.bl) ∧ Q (.bl (bs.all id)) (upd H2 p (.lst ys))) W := by
  refine comp_map (K := K) (xs := z.cps.toList) (enc := fun c => Dt.str ⟨#[c]⟩) (over_str z) (by rw [List.map_map]; exact Dens.strs' _) (by rw [Array.length_toList]; exact hz) (fun c => Dt.bl (inS "#012345678" c)) (fun c _ v H' s D G hG => ?_) (fun ys H' s D p hp => ?_)
  · cases D
    exact ht c H' G (hG _ _ (Same.refl _) (.bl _))
  · have e : ys = (z.cps.toList.map (inS "#012345678")).map V.bl := by
      refine Dens.of_bls (K := K) (H := H') ?_
      rw [List.map_map]; exact D
    refine ⟨p, z.cps.toList.map (inS "#012345678"), rfl, SqL.of (by rw [upd_same, e]), ?_⟩
    rw [List.all_map]
    exact hq _ (s.and hp)
def spRow : Sp := fun vs H Q _ => ∃ (z : Str) (n : Int), vs = [.str z, .int n] ∧ z.length ≤ 1000 ∧ ∀ H', Same H H' → Q (.bl (rowB z n)) H'
theorem chain_leV {l n m : Int} {te : TE} {σ : L2.St} {H : Hp} {G : VK} (he : ∀ Q' : VK, Q' (.int m) H → te σ H Q') (hg : G (.bl (decide (l ≤ n ∧ n ≤ m))) H) :
    if decide (l ≤ n) = true then te σ H (fun w' H4 => rI0 (fun i j => .bl (decide (i ≤ j))) (.int n) w' H4 G) else G (.bl false) H := by
  refine ite2 (fun h1 => he _ ⟨_, _, rfl, rfl, ?_⟩) (fun h1 => ?_)
  · have h1' := of_decide_eq_true h1
    have e : decide (l ≤ n ∧ n ≤ m) = decide (n ≤ m) := by simp [h1']
    show G (.bl (decide (n ≤ m))) H
    rw [← e]; exact hg
  · have e : decide (l ≤ n ∧ n ≤ m) = false := decide_eq_false fun h => h1 (decide_eq_true h.1)
    rw [← e]; exact hg
def sizeB (m n : Int) : Bool := decide (1 ≤ m ∧ m ≤ 6) && decide (1 ≤ n ∧ n ≤ 6)
def spSize : Sp := fun vs H Q _ => ∃ (m n : Int), vs = [.int m, .int n] ∧ Q (.bl (sizeB m n)) H
def spView (K : PySem.W.Frag) : Sp := fun vs H Q _ => ∃ (p : Addr) (zs : List Str), vs = [.ref p] ∧ SqL K H p (zs.map V.str) ∧ zs.length ≤ 1000 ∧ (∀ z ∈ zs, z.length ≤ 1000) ∧ ∀ H', Same H H' → Q (.bl (viewB zs)) H'
theorem len_v {zs : List Str} : (((zs.map V.str).length : Nat) : Int) = (zs.length : Int) := by rw [List.length_map]
theorem rows_all {K : PySem.W.Frag} {H : Hp} {a : Addr} {zs : List Str} {n : Int} {σ : L2.St} {Q : VK} {te : TE} (hS : SqL K H a (zs.map V.str)) (hz : zs.length ≤ 1000)
    (ht : ∀ z ∈ zs, ∀ (H' : Hp), Same H H' → ∀ G : VK, (∀ H'', Same H' H'' → G (.bl (rowB z n)) H'') → te (some (.str z) :: σ) H' G)
    (hq : ∀ H', Same H H' → Q (.bl (zs.all fun r => rowB r n)) H') :
    ∃ W : Nat → Nat → List V → Hp → Prop, (∃ m, W 0 m [] H) ∧ CompW (Itl K a) tYes te σ (fun ys H2 => ∀ p, H2 p = none → rAll K [V.ref p] (upd H2 p (.lst ys)) Q) W := by
  refine comp_map (K := K) (xs := zs) (enc := Dt.str) (over_list hS) (Dens.strs zs) (small (by omega)) (fun z => Dt.bl (rowB z n)) (fun z hz v H' s D G hG => ?_) (fun ys H' s D p hp => ?_)
  · cases D
    exact ht z hz H' s G fun H'' s'' => hG _ _ s'' (.bl _)
  · have e : ys = (zs.map fun z => rowB z n).map V.bl := by
      refine Dens.of_bls (K := K) (H := H') ?_
      rw [List.map_map]; exact D
    refine ⟨p, zs.map fun z => rowB z n, rfl, SqL.of (by rw [upd_same, e]), ?_⟩
    rw [List.all_map]
    exact hq _ (s.and hp)
section
variable {P : Program} {w : World} {K : PySem.W.Frag} {mg : Str → Option Value} {base : Heap} {Z : Adr}
theorem ok_row {f : Addr} {fd : FuncData} (F : Fun K "is_row" "is_row" s_is_row f fd) (T : Txt K mg Z) : FnOk P w K mg base (CXE P w) 1 f fd ["row", "width"] spRow := by
  refine F.rok sc_is_row (fun vs H Q E h => ?_) (fun cdv A outer s H vs Q E hr h => ?_)
  · obtain ⟨z, n, rfl, _⟩ := h; rfl
  · obtain ⟨z, n, rfl, hz, hq⟩ := h
    have hu := hu60 hr
    have hu' := hu61 hr
    have hz' : z.length ≤ sizeLine := small (by omega)
    refine ⟨_, (rss_one (rs_ret (r_and (r_cmp (op_eq.or (k_eqD (K := K) hu)) (r_callB (k_len (K := K)) rfl T.b_len bt_len (ra_cons (rv 0) ra_nil)) (rv 1) (nomark _)) (r_one (r_callB (k_all (K := K) rfl) rfl T.b_all bt_all (ra_cons (r_comp (by rfl) rfl (ri_str (rv 0)) (fun _ _ _ => rif_nil) (fun _ _ _ => (r_cmp (op_in_str.or (k_inD (K := K) hu')) (rv 0) (r_gstr T.g_SIGNS rfl) (by rfl)))) ra_nil)))))), ?_⟩
    refine ⟨_, rfl, .inr ⟨z, rfl, hz', _, rfl, .inl ⟨rfl, _, rfl, ?_⟩⟩⟩
    rw [dec_v]
    refine ite2 (fun h1 => ?_) (fun h1 => ?_)
    · refine ⟨_, rfl, z, rfl, signs_all (K := K) hz' (fun c H' G hG => ⟨_, rfl, .inl ⟨_, _, rfl, rfl, hG⟩⟩) fun H' s' => ?_⟩
      have := hq H' s'
      unfold rowB at this
      rw [h1, Bool.true_and] at this
      exact this
    · have := hq H (Same.refl _)
      unfold rowB at this
      rw [Bool.eq_false_iff.mpr h1, Bool.false_and] at this
      exact this
theorem ok_size {f : Addr} {fd : FuncData} (F : Fun K "is_size" "is_size" s_is_size f fd) (T : Txt K mg Z) : FnOk P w K mg base (CXE P w) 1 f fd ["height", "width"] spSize := by
  refine F.rok sc_is_size (fun vs H Q E h => ?_) (fun cdv A outer s H vs Q E hr h => ?_)
  · obtain ⟨m, n, rfl, _⟩ := h; rfl
  · obtain ⟨m, n, rfl, hq⟩ := h
    refine ⟨_, (rss_one (rs_ret (r_and (r_chain op_le op_le r_int (rv 0) (r_gint T.g_MOST_ROWS rfl)) (r_one (r_chain op_le op_le r_int (rv 1) (r_gint T.g_MOST_COLUMNS rfl)))))), ?_⟩
    refine ⟨_, rfl, _, _, rfl, rfl, _, rfl, ?_⟩
    refine chain_leV (m := 6) (fun _ q => q) ⟨_, rfl, ite_b (fun hb => ?_) (fun hb => ?_)⟩
    · unfold sizeB at hq
      rw [hb, Bool.true_and] at hq
      refine ⟨_, rfl, _, _, rfl, rfl, _, rfl, ?_⟩
      exact chain_leV (m := 6) (fun _ q => q) hq
    · unfold sizeB at hq
      rw [hb, Bool.false_and] at hq
      exact hq
theorem size_iff {m n : Int} : sizeB m n = true ↔ ((1 ≤ m ∧ m ≤ 6) ∧ (1 ≤ n ∧ n ≤ 6)) := by
  unfold sizeB
  rw [Bool.and_eq_true, decide_eq_true_iff, decide_eq_true_iff]
theorem ok_view {f : Addr} {fd : FuncData} (F : Fun K "is_view" "is_view" s_is_view f fd) (T : Txt K mg Z) (D_is_row : Df P w K mg base 1 "is_row" ["row", "width"] spRow) (D_is_size : Df P w K mg base 1 "is_size" ["height", "width"] spSize) : FnOk P w K mg base (CXE P w) 2 f fd ["rows"] (spView K) := by
  refine F.rok sc_is_view (fun vs H Q E h => ?_) (fun cdv A outer s H vs Q E hr h => ?_)
  · obtain ⟨p, zs, rfl, _⟩ := h; rfl
  · obtain ⟨p, zs, rfl, hS, hn, hz, hq⟩ := h
    have hu := hu60 hr
    refine ⟨_, (rss_cons (rs_if (rt_b (rb_or (rt_cmp (op_eq.or (k_eqD (K := K) hu)) (r_callB (k_len (K := K)) rfl T.b_len bt_len (ra_cons (rv 0) ra_nil)) r_int (nomark _)) (rb_or1 (rt_not (rt_val (r_def D_is_size hr rfl passE (ra_cons (r_callB (k_len (K := K)) rfl T.b_len bt_len (ra_cons (rv 0) ra_nil)) (ra_cons (r_callB (k_len (K := K)) rfl T.b_len bt_len (ra_cons (r_ix (k_ix (K := K)) (rv 0) r_int) ra_nil)) ra_nil)))))))) (rss_one (rs_ret r_bl)) rss_nil) (rss_one (rs_ret (r_callB (k_all (K := K) rfl) rfl T.b_all bt_all (ra_cons (r_comp (by rfl) rfl (kri_list (K := K) (rv 0)) (fun _ _ _ => rif_nil) (fun _ _ _ => (r_def D_is_row hr rfl passE (ra_cons (rv 0) (ra_cons (r_callB (k_len (K := K)) rfl T.b_len bt_len (ra_cons (r_ix (k_ix (K := K)) (rv 1) r_int) ra_nil)) ra_nil))))) ra_nil))))), ?_⟩
    refine ⟨_, rfl, .inl ⟨p, _, rfl, .inl hS, .inl ⟨rfl, _, rfl, ?_⟩⟩⟩
    rw [len_v, dec_v]
    refine ite_b (fun hb => ?_) (fun hb => ?_)
    · cases zs with
      | nil => exact hq H (Same.refl _)
      | cons z zs => have := of_decide_eq_true hb; simp only [List.length_cons] at this; omega
    cases zs with
    | nil => cases hb
    | cons z zs =>
      have z0 := hz z List.mem_cons_self
      refine ⟨_, rfl, .inl ⟨p, _, rfl, .inl hS, _, rfl, .inl ⟨p, _, _, _, rfl, rfl, hS, atI_zero, .inr ⟨z, rfl, small (by omega), ?_⟩⟩⟩⟩
      refine ⟨_, _, rfl, ?_⟩
      rw [len_v]
      refine ⟨_, rfl, ite_b (fun h1 => ?_) (fun h1 => ?_)⟩
      · have := hq H (Same.refl _)
        have h1 : ¬ sizeB ((z :: zs).length : Nat) z.length = true := by simpa using h1
        rw [size_iff] at h1
        by_cases h2 : (z :: zs).length ≤ 6
        · rw [viewB_wide (by simp only [List.length_cons] at h1 h2 ⊢; omega)] at this
          exact this
        · rw [viewB_long h2] at this
          exact this
      · have h1 : sizeB ((z :: zs).length : Nat) z.length = true := by simpa using h1
        rw [size_iff] at h1
        obtain ⟨⟨a1, a2⟩, a3, a4⟩ := h1
        refine ⟨_, rfl, p, rfl, ⟨_, hS⟩, rows_all hS hn (n := z.length) (fun r hr' H' s' G hG => ?_) fun H' s' => ?_⟩
        · refine ⟨_, rfl, _, rfl, .inl ⟨p, _, _, _, rfl, rfl, s'.seq hS, atI_zero, .inr ⟨z, rfl, small (by omega), ?_⟩⟩⟩
          exact ⟨r, _, rfl, hz r hr', hG⟩
        · rw [← viewB_cons (by omega) (by omega) (by omega)]
          exact hq H' s'
def spInit (K : PySem.W.Frag) (C B : Addr) : Sp := fun vs H Q E => ∃ (x dx p : Addr) (z : List Str), vs = [.ref x, .ref p] ∧ H x = some (.ins C dx []) ∧ SqL K H p (z.map V.str) ∧ z.length ≤ 1000 ∧ (∀ r ∈ z, r.length ≤ 1000) ∧
  (viewB z = false → ∀ H', Same H H' → E (.ref B) none H') ∧ (viewB z = true → ∀ H' (l : Addr) (z0 : Str) (zs : List Str), z = z0 :: zs → H l = none → l ≠ x → H' l = some (.lst (z.map V.str)) → H' x = some (.ins C dx (fView l z.length z0.length)) → (∀ b o, H b = some o → b ≠ x → H' b = some o) → Q .non H')
theorem sq_upd {K : PySem.W.Frag} {H : Hp} {p x C dx : Addr} {xs : List V} {fs : List (Str × V)} {o : HO} (h : SqL K H p xs) (hx : H x = some (.ins C dx fs)) : SqL K (upd H x o) p xs := by
  rcases h with (h | ⟨ob, h⟩) | h
  · exact .inl (.inl (by rw [upd_ne (ne_of h hx (by intro z; cases z))]; exact h))
  · exact .inl (.inr ⟨ob, by rw [upd_ne (ne_of h hx (by intro z; cases z))]; exact h⟩)
  · exact .inr h
theorem few2 {a b : Str} {u v : V} : (putF a v (putF b u [])).length < 1000 := by
  have h1 := length_putF a v (putF b u [])
  have h2 := length_putF b u []
  simp only [List.length_nil] at h2
  omega
theorem ok_init {f : Addr} {fd : FuncData} (F : Fun K "__init__" "View.__init__" s_View___init__ f fd) (T : Txt K mg Z) (D_is_view : Df P w K mg base 2 "is_view" ["rows"] (spView K)) : FnOk P w K mg base (CXE P w) 3 f fd ["self", "rows"] (spInit K Z.View Z.BadView) := by
  refine F.rokE sc_View___init__ (fun vs H Q E h => ?_) (fun cdv A outer s H vs Q E hr h => ?_)
  · obtain ⟨x, dx, p, z, rfl, _⟩ := h; rfl
  · obtain ⟨x, dx, p, z, rfl, hx, hS, hn, hz, hE, hq⟩ := h
    have hd := hd_of hr
    refine ⟨_, (rss_cons (rs_if (RT.nox (rt_not (rt_val (r_def D_is_view hr rfl passE (ra_cons (rv 1) ra_nil))))) (rss_one (rs_raise T.x_BadView rfl T.c_BadView hd (ra_cons r_str ra_nil))) rss_nil) (rss_cons (RS.nox (rs_fld (rv 0) (r_callTy (k_list (K := K)) rfl T.b_list bt_list (ra_cons (rv 1) ra_nil)))) (rss_cons (RS.nox (rs_fld (rv 0) (r_callB (k_len (K := K)) rfl T.b_len bt_len (ra_cons (rv 1) ra_nil)))) (rss_one (RS.nox (rs_fld (rv 0) (r_callB (k_len (K := K)) rfl T.b_len bt_len (ra_cons (r_ix (k_ix (K := K)) (rv 1) r_int) ra_nil)))))))), ?_⟩
    refine ⟨_, rfl, p, z, rfl, hS, hn, hz, fun H1 s1 => ⟨_, rfl, ?_⟩⟩
    cases hv : viewB z with
    | false => exact iteT ⟨by decide, hE hv H1 s1⟩
    | true =>
      refine iteF ?_
      cases z with
      | nil => exact absurd (show false = true from hv) (by decide)
      | cons z0 zs =>
        have z0' := hz z0 List.mem_cons_self
        refine ⟨_, rfl, p, _, rfl, .inl (s1.seq hS), fun l hl => ?_⟩
        have nlx : l ≠ x := (ne_of_none (s1 x _ hx) hl).symm
        have h1 : (upd H1 l (.lst ((z0 :: zs).map V.str))) x = some (.ins Z.View dx []) := by rw [upd_ne nlx.symm]; exact s1 x _ hx
        have S1 : SqL K (upd H1 l (.lst ((z0 :: zs).map V.str))) p ((z0 :: zs).map V.str) := (s1.and hl).seq hS
        refine ⟨_, rfl, x, Z.View, dx, _, rfl, h1, T.cl_View, T.n_View_rows, (by show 0 < 1000; decide), ?_⟩
        have S2 := sq_upd (o := .ins Z.View dx (putF "rows" (.ref l) [])) S1 h1
        refine ⟨_, rfl, .inl ⟨p, _, rfl, .inl S2, _, rfl, x, Z.View, dx, _, rfl, upd_same, T.cl_View, T.n_View_height, (by show 1 < 1000; decide), ?_⟩⟩
        have S3 := sq_upd (o := .ins Z.View dx (putF "height" (.int ((z0 :: zs).map V.str).length) (putF "rows" (.ref l) []))) S2 upd_same
        refine ⟨_, rfl, .inl ⟨p, _, _, _, rfl, rfl, S3, atI_zero, .inr ⟨z0, rfl, small (by omega), _, rfl, x, Z.View, dx, _, rfl, upd_same, T.cl_View, T.n_View_width, few2, ?_⟩⟩⟩
        refine hq hv _ l z0 zs rfl (s1.free hl) nlx ?_ ?_ (fun b o e hb => ?_)
        · rw [upd_ne nlx, upd_ne nlx, upd_ne nlx, upd_same]
        · rw [upd_same]; rw [List.length_map]; rfl
        · rw [upd_ne hb, upd_ne hb, upd_ne hb]
          exact (s1.and hl) b o e
end
end My
set_option Elab.async false
set_option linter.all false
set_option maxRecDepth 100000
set_option maxHeartbeats 1000000
namespace My
open PySem L2
def spHas (K : PySem.W.Frag) (C : Addr) : Sp := fun vs H Q _ => ∃ (x : Addr) (v : V) (zs : List Str) (w : Nat) (c : Cell), vs = [.ref x, v] ∧ ViewAt C H x zs w ∧ Den K H v (cellD c) ∧ Q (.bl (decide (inF zs.length w c))) H
def spIsClosed (K : PySem.W.Frag) (C : Addr) : Sp := fun vs H Q _ => ∃ (x : Addr) (v : V) (zs : List Str) (w : Nat) (c : Cell), vs = [.ref x, v] ∧ ViewAt C H x zs w ∧ Den K H v (cellD c) ∧ Q (.bl (closedB zs w c)) H
def spPNear (K : PySem.W.Frag) (C NC : Addr) : Sp := fun vs H Q E => ∃ (x : Addr) (v : V) (zs : List Str) (w : Nat) (c : Cell), vs = [.ref x, v] ∧ ViewAt C H x zs w ∧ Den K H v (cellD c) ∧ (inF zs.length w c → ∀ q H', Fr K H H' q ((lnear zs.length w c).map cellD) → Q (.ref q) H') ∧ (¬ inF zs.length w c → ∀ H', Same H H' → E (.ref NC) none H')
section
variable {P : Program} {w : World} {K : PySem.W.Frag} {mg : Str → Option Value} {base : Heap} {Z : Adr}
theorem ok_has {f : Addr} {fd : FuncData} (F : Fun K "has_cell" "has_cell" s_has_cell f fd) (T : Txt K mg Z) : FnOk P w K mg base (CXE P w) 1 f fd ["view", "cell"] (spHas K Z.View) := by
  refine F.rok sc_has_cell (fun vs H Q E h => ?_) (fun cdv A outer s H vs Q E hr h => ?_)
  · obtain ⟨x, v, zs, w, c, rfl, _⟩ := h; rfl
  · obtain ⟨x, v, zs, w, c, rfl, vt, dv, hq⟩ := h
    obtain ⟨dx, l, hx, hl⟩ := vt.ob
    refine ⟨_, (rss_one (rs_ret (r_and (r_chain op_le op_lt r_int (r_ix (k_ix (K := K)) (rv 1) r_int) (kr_fld (K := K) (rv 0))) (r_one (r_chain op_le op_lt r_int (r_ix (k_ix (K := K)) (rv 1) r_int) (kr_fld (K := K) (rv 0))))))), ?_⟩
    refine ⟨_, rfl, rd_fst dv ⟨_, _, rfl, rfl, _, rfl, ?_⟩⟩
    refine chain_ltV (m := (zs.length : Int)) (fun Q' q => ⟨_, rfl, x, Z.View, dx, _, _, rfl, hx, T.cl_View, T.n_View_height, f_height _ _ _, q⟩) ⟨_, rfl, ?_⟩
    have fin : ∀ b : Bool, b = decide (inF zs.length w c) → Q (.bl b) H := fun b e => by rw [e]; exact hq
    refine ite_b (fun h1 => ?_) (fun h1 => fin _ (decide_eq_false fun z => by rw [decide_eq_true z.1] at h1; cases h1).symm)
    refine ⟨_, rfl, rd_snd dv ⟨_, _, rfl, rfl, _, rfl, ?_⟩⟩
    refine chain_ltV (m := (w : Int)) (fun Q' q => ⟨_, rfl, x, Z.View, dx, _, _, rfl, hx, T.cl_View, T.n_View_width, f_width _ _ _, q⟩) (fin _ ?_)
    have h1' := of_decide_eq_true h1
    by_cases h2 : 0 ≤ c.2 ∧ c.2 < (w : Int)
    · rw [decide_eq_true h2, decide_eq_true (show inF zs.length w c from ⟨h1', h2⟩)]
    · rw [decide_eq_false h2, decide_eq_false (fun z : inF zs.length w c => h2 z.2)]
theorem ok_isclosed {f : Addr} {fd : FuncData} (F : Fun K "is_closed" "is_closed" s_is_closed f fd) (T : Txt K mg Z) (D_has_cell : Df P w K mg base 1 "has_cell" ["view", "cell"] (spHas K Z.View)) : FnOk P w K mg base (CXE P w) 2 f fd ["view", "cell"] (spIsClosed K Z.View) := by
  refine F.rok sc_is_closed (fun vs H Q E h => ?_) (fun cdv A outer s H vs Q E hr h => ?_)
  · obtain ⟨x, v, zs, w, c, rfl, _⟩ := h; rfl
  · obtain ⟨x, v, zs, w, c, rfl, vt, dv, hq⟩ := h
    obtain ⟨dx, l, hx, hl⟩ := vt.ob
    have hu := hu60 hr
    refine ⟨_, (rss_one (rs_ret (r_and (r_def D_has_cell hr rfl passE (ra_cons (rv 0) (ra_cons (rv 1) ra_nil))) (r_one (r_cmp (op_eq.or (k_eqD (K := K) hu)) (r_ix (k_ix (K := K)) (r_ix (k_ix (K := K)) (kr_fld (K := K) (rv 0)) (r_ix (k_ix (K := K)) (rv 1) r_int)) (r_ix (k_ix (K := K)) (rv 1) r_int)) (r_gstr T.g_CLOSED_SIGN rfl) (nomark _)))))), ?_⟩
    refine ⟨_, rfl, _, rfl, x, v, zs, w, c, rfl, vt, dv, _, rfl, ?_⟩
    unfold closedB at hq
    refine ite_b (fun h1 => ?_) (fun h1 => ?_)
    · rw [h1, Bool.true_and] at hq
      obtain ⟨⟨a1, a2⟩, ⟨a3, a4⟩⟩ := of_decide_eq_true h1
      have e1 : c.1 = ((c.1.toNat : Nat) : Int) := by omega
      have e2 : c.2 = ((c.2.toNat : Nat) : Int) := by omega
      have i1 : c.1.toNat < zs.length := by omega
      refine ⟨_, rfl, x, Z.View, dx, _, _, rfl, hx, T.cl_View, T.n_View_rows, f_rows _ _ _, _, rfl, rd_fst dv ?_⟩
      rw [e1]
      refine rd_row (SqL.of hl) i1 ⟨_, rfl, rd_snd dv ?_⟩
      rw [e2]
      refine rd_sign (SqL.of hl) vt.vw.toRect i1 (by omega) (.inl ⟨rfl, ?_⟩)
      have es : decide (V.str ⟨#[codeAt zs (c.1.toNat, c.2.toNat)]⟩ = V.str "#") = decide (codeAt zs (c.1.toNat, c.2.toNat) = 35) := by
        congr 1
        apply propext
        have eh : ("#" : Str) = ⟨#[35]⟩ := by decide +kernel
        rw [eh]
        constructor
        · intro z; simpa using z
        · intro z; rw [z]
      rw [es]; exact hq
    · rw [h1, Bool.false_and] at hq
      exact hq
end
end My
set_option Elab.async false
set_option linter.all false
set_option maxRecDepth 100000
set_option maxHeartbeats 1000000
namespace My
open PySem L2
theorem dec_ne (a b : Cell) : (!eqD (cellD a) (cellD b)) = !decide (a = b) := by rw [eqD_cell]
theorem max_ite (a : Int) : (if (0 : Int) > a then (0 : Int) else a) = max a 0 := by by_cases h : (0 : Int) > a <;> simp only [h, if_true, if_false] <;> omega
theorem min_ite (a b : Int) : (if b < a then b else a) = min a b := by by_cases h : b < a <;> simp only [h, if_true, if_false] <;> omega
theorem max_bd {a : Int} (h : a ≤ 6) : 0 ≤ max a 0 ∧ max a 0 ≤ 6 := ⟨Int.le_max_right _ _, Int.max_le.mpr ⟨h, by decide⟩⟩
theorem min_bd {a b : Int} (h : 0 ≤ a) (h0 : 0 ≤ b) (h2 : b ≤ 6) : 0 ≤ min a b ∧ min a b ≤ 6 := ⟨Int.le_min.mpr ⟨h, h0⟩, Int.le_trans (Int.min_le_right _ _) h2⟩
theorem rng_ok {i j : Int} (a : 0 ≤ i ∧ i ≤ 6) (b : 0 ≤ j ∧ j ≤ 6) : -(2 ^ 62) ≤ i ∧ i < 2 ^ 62 ∧ -(2 ^ 62) ≤ j ∧ j < 2 ^ 62 := ⟨by omega, by omega, by omega, by omega⟩
theorem cnt_bd {a b : Int} {i : Nat} (ha : 0 ≤ a) (hb : b ≤ 6) (h : i < (b - a).toNat) : i < 6 := by omega
theorem cnt_le {a b : Int} (ha : 0 ≤ a) (hb : b ≤ 6) : (b - a).toNat ≤ 6 := by omega
theorem step6 {a b n : Nat} (h1 : a ≤ n * 6) (h2 : b ≤ 6) : a + b ≤ (n + 1) * 6 := by omega
theorem ll_bd {a b i j : Nat} (h1 : a ≤ i * 6) (h2 : b ≤ j) (hi : i < 6) (hj : j < 6) : a + b ≤ 100 := by omega
section
variable {P : Program} {w : World} {K : PySem.W.Frag} {mg : Str → Option Value} {base : Heap} {Z : Adr}
theorem ok_pnear {f : Addr} {fd : FuncData} (F : Fun K "near" "near" s_near f fd) (T : Txt K mg Z) (D_has_cell : Df P w K mg base 1 "has_cell" ["view", "cell"] (spHas K Z.View)) : FnOk P w K mg base (CXE P w) 2 f fd ["view", "cell"] (spPNear K Z.View Z.NoCell) := by
  refine F.rokE sc_near (fun vs H Q E h => ?_) (fun cdv A outer s H vs Q E hr h => ?_)
  · obtain ⟨x, v, zs, w, c, rfl, _⟩ := h; rfl
  · obtain ⟨x, v, zs, w, c, rfl, vt, dv, hq, hE⟩ := h
    have hu := hu60 hr
    have hd := hd_of hr
    have z6 := vt.vw.le
    have w6 := vt.vw.w6
    refine ⟨_, (rss_cons (rs_if (RT.nox (rt_not (rt_val (r_def D_has_cell hr rfl passE (ra_cons (rv 0) (ra_cons (rv 1) ra_nil)))))) (rss_one (rs_raise T.x_NoCell rfl T.c_NoCell hd (ra_cons r_str ra_nil))) rss_nil) (rss_cons (RS.nox (rs_set (i := 2) sc_near.nd rfl (by first | exact Or.inl rfl | exact Or.inr rfl) (r_lst ra_nil))) (rss_cons (RS.nox (rs_for PassesOwn.never rfl (ri_range2 rfl T.b_range (ra_cons (r_callB (call_max2 rfl) rfl T.b_max bt_max (ra_cons (r_op op_sub (r_ix (k_ix (K := K)) (rv 1) r_int) r_int) (ra_cons r_int ra_nil))) (ra_cons (r_callB (call_min2 rfl) rfl T.b_min bt_min (ra_cons (r_op op_addG (r_ix (k_ix (K := K)) (rv 1) r_int) r_int) (ra_cons (kr_fld (K := K) (rv 0)) ra_nil))) ra_nil))) (rg_name (i := 3) sc_near.nd rfl (by first | exact Or.inl rfl | exact Or.inr rfl)) (rss_one (rs_for PassesOwn.never rfl (ri_range2 rfl T.b_range (ra_cons (r_callB (call_max2 rfl) rfl T.b_max bt_max (ra_cons (r_op op_sub (r_ix (k_ix (K := K)) (rv 1) r_int) r_int) (ra_cons r_int ra_nil))) (ra_cons (r_callB (call_min2 rfl) rfl T.b_min bt_min (ra_cons (r_op op_addG (r_ix (k_ix (K := K)) (rv 1) r_int) r_int) (ra_cons (kr_fld (K := K) (rv 0)) ra_nil))) ra_nil))) (rg_name (i := 4) sc_near.nd rfl (by first | exact Or.inl rfl | exact Or.inr rfl)) (rss_one (rs_if (rt_cmp (op_ne.or (k_neD (K := K) hu)) (r_tup (ra_cons (rv 3) (ra_cons (rv 4) ra_nil))) (rv 1) (nomark _)) (rss_one (rs_expr (kr_bm (K := K) PySem.F.plainAttrs_list PySem.F.slot_list_append PySem.F.type_list_append mt_append (rv 2) (ra_cons (r_tup (ra_cons (rv 3) (ra_cons (rv 4) ra_nil))) ra_nil)))) rss_nil)))))) (rss_one (RS.nox (rs_ret (rv 2))))))), ?_⟩
    refine seq_mid (fun σ H1 => inF zs.length w c ∧ Same H H1 ∧ σ = [some (.ref x), some v, none, none, none]) (fun R hR => ?_) ?_
    · refine ⟨_, rfl, _, rfl, x, v, zs, w, c, rfl, vt, dv, _, rfl, ?_⟩
      refine ite_b (fun h1 => ⟨by decide, hE (of_decide_eq_false (by simpa only [Bool.not_eq_true'] using h1)) H (Same.refl _)⟩) (fun h1 => hR _ _ ⟨of_decide_eq_true (by simpa only [Bool.not_eq_false'] using h1), Same.refl _, rfl⟩)
    rintro σ H1 ⟨hin, s1, rfl⟩
    have hq' := hq hin
    rw [← pnear_eq z6 w6 hin] at hq'
    obtain ⟨⟨c1, c2⟩, ⟨c3, c4⟩⟩ := id hin
    refine seq_mid (fun σ H2 => ∃ q, H q = none ∧ Same H H2 ∧ H2 q = some (.lst []) ∧ σ = [some (.ref x), some v, some (.ref q), none, none]) (fun R hR => ?_) ?_
    · exact ⟨by decide, fun q hq' => hR _ _ ⟨q, s1.free hq', s1.and hq', upd_same, rfl⟩⟩
    rintro σ H2 ⟨q, nq, s2, hq2, rfl⟩
    have m1 : (if (0 : Int) > c.1 - 1 then (0 : Int) else c.1 - 1) = max (c.1 - 1) 0 := max_ite _
    have m2 : (if (zs.length : Int) < c.1 + 2 then (zs.length : Int) else c.1 + 2) = min (c.1 + 2) zs.length := min_ite _ _
    have m3 : (if (0 : Int) > c.2 - 1 then (0 : Int) else c.2 - 1) = max (c.2 - 1) 0 := max_ite _
    have m4 : (if (w : Int) < c.2 + 2 then (w : Int) else c.2 + 2) = min (c.2 + 2) w := min_ite _ _
    have bx1 := max_bd (a := c.1 - 1) (by omega)
    have bx2 := max_bd (a := c.2 - 1) (by omega)
    have bn1 := min_bd (a := c.1 + 2) (b := (zs.length : Int)) (by omega) (by omega) (by omega)
    have bn2 := min_bd (a := c.2 + 2) (b := (w : Int)) (by omega) (by omega) (by omega)
    refine seq_mid (fun σ H3 => ∃ (v3 v4 : Option V), Fr K H H3 q ((pnearL zs.length w c).map cellD) ∧ σ = [some (.ref x), some v, some (.ref q), v3, v4]) (fun R hR => ?_) ?_
    · obtain ⟨dx, l, hx, hl⟩ := (vt.mono s2).ob
      refine ⟨_, rfl, rd_fst (dv.mono s2) ⟨_, _, rfl, rfl, _, _, rfl, ?_⟩⟩
      refine ⟨_, rfl, rd_fst (dv.mono s2) ⟨_, rfl, x, Z.View, dx, _, _, rfl, hx, T.cl_View, T.n_View_height, f_height _ _ _, _, _, rfl, _, _, rfl, ?_⟩⟩
      rw [m1, m2]
      refine ⟨rng_ok bx1 bn1, ?_⟩
      refine for_range (lo := max (c.1 - 1) 0) (n := (min (c.1 + 2) (zs.length : Int) - max (c.1 - 1) 0).toNat) (fun i σ H3 => ∃ (v3 v4 : Option V), Same H H3 ∧ Ls K H3 q ((pnearN w c (max (c.1 - 1) 0) i).map cellD) ∧ σ = [some (.ref x), some v, some (.ref q), v3, v4]) ⟨none, none, s2, ⟨[], hq2, .nil⟩, rfl⟩ (fun i σ H3 hi hh => ?_) (fun σ H3 hh => ?_)
      · obtain ⟨v3, v4, g1, g2, rfl⟩ := hh
        obtain ⟨dx, l, hx, hl⟩ := (vt.mono g1).ob
        refine ⟨_, rfl, rd_snd (dv.mono g1) ⟨_, _, rfl, rfl, _, _, rfl, ?_⟩⟩
        refine ⟨_, rfl, rd_snd (dv.mono g1) ⟨_, rfl, x, Z.View, dx, _, _, rfl, hx, T.cl_View, T.n_View_width, f_width _ _ _, _, _, rfl, _, _, rfl, ?_⟩⟩
        rw [m3, m4]
        refine ⟨rng_ok bx2 bn2, ?_⟩
        have base0 : pnearN w c (max (c.1 - 1) 0) (i + 1) = pnearN w c (max (c.1 - 1) 0) i ++ nearRow w c (max (c.1 - 1) 0 + (i : Int)) := by
          unfold pnearN
          rw [List.range_succ, List.flatMap_append]; simp
        have pl : ∀ n, (pnearN w c (max (c.1 - 1) 0) n).length ≤ n * 6 := by
          intro n
          induction n with
          | zero => simp [pnearN]
          | succ n ih =>
            unfold pnearN at ih ⊢
            rw [List.range_succ, List.flatMap_append, List.length_append]
            have : ([n].flatMap fun k : Nat => nearRow w c (max (c.1 - 1) 0 + (k : Int))).length ≤ 6 := by
              simp only [List.flatMap_cons, List.flatMap_nil, List.append_nil]
              unfold nearRow
              refine Nat.le_trans (List.length_filter_le _ _) ?_
              rw [List.length_map, List.length_range]; exact cnt_le bx2.1 bn2.2
            exact step6 ih this
        refine for_range (lo := max (c.2 - 1) 0) (n := (min (c.2 + 2) (w : Int) - max (c.2 - 1) 0).toNat) (fun j σ H3 => ∃ v4 : Option V, Same H H3 ∧ Ls K H3 q ((pnearN w c (max (c.1 - 1) 0) i ++ ((List.range j).map fun k : Nat => (max (c.1 - 1) 0 + (i : Int), max (c.2 - 1) 0 + (k : Int))).filter fun y => !decide (y = c)).map cellD) ∧ σ = [some (.ref x), some v, some (.ref q), some (.int (max (c.1 - 1) 0 + (i : Int))), v4])
          ⟨v4, g1, by simpa using g2, rfl⟩ (fun j σ H3 hj hh => ?_) (fun σ H3 hh => ?_)
        · obtain ⟨v4, g1, ⟨xs, ex, D⟩, rfl⟩ := hh
          have step : ∀ b : Bool, b = !decide ((max (c.1 - 1) 0 + (i : Int), max (c.2 - 1) 0 + (j : Int)) = c) → (((List.range (j + 1)).map fun k : Nat => (max (c.1 - 1) 0 + (i : Int), max (c.2 - 1) 0 + (k : Int))).filter fun y => !decide (y = c)) = (((List.range j).map fun k : Nat => (max (c.1 - 1) 0 + (i : Int), max (c.2 - 1) 0 + (k : Int))).filter fun y => !decide (y = c)) ++ (if b = true then [(max (c.1 - 1) 0 + (i : Int), max (c.2 - 1) 0 + (j : Int))] else []) := by
            intro b hb
            rw [List.range_succ, List.map_append, List.filter_append, List.map_cons, List.map_nil, List.filter_cons, List.filter_nil, ← hb]
          have ll : xs.length ≤ 100 := by
            rw [D.length, List.length_map, List.length_append]
            have := pl i
            have h2 : (((List.range j).map fun k : Nat => (max (c.1 - 1) 0 + (i : Int), max (c.2 - 1) 0 + (k : Int))).filter fun y => !decide (y = c)).length ≤ j := Nat.le_trans (List.length_filter_le _ _) (by rw [List.length_map, List.length_range]; exact Nat.le_refl _)
            exact ll_bd this h2 (cnt_bd bx1.1 bn1.2 hi) (cnt_bd bx2.1 bn2.2 hj)
          refine ⟨_, rfl, _, rfl, sz rfl, fun t ht => ?_⟩
          have st := Same.put (o := .tup [V.int (max (c.1 - 1) 0 + (i : Int)), V.int (max (c.2 - 1) 0 + (j : Int))]) ht
          refine ⟨_, rfl, .inr ⟨cellD (max (c.1 - 1) 0 + (i : Int), max (c.2 - 1) 0 + (j : Int)), cellD c, rfl, den_cell, dv.mono (g1.trans st), rfl, dep_cell _, ?_⟩⟩
          refine ⟨_, rfl, ?_⟩
          show if (!eqD _ _) = true then _ else _
          rw [dec_ne]
          refine ite_b (fun hb => ?_) (fun hb => ?_)
          · refine ⟨_, rfl, .inl ⟨rfl, _, SqL.of (st _ _ ex)⟩, _, rfl, _, rfl, sz rfl, fun t2 ht2 => ?_⟩
            have st2 := Same.put (o := .tup [V.int (max (c.1 - 1) 0 + (i : Int)), V.int (max (c.2 - 1) 0 + (j : Int))]) ht2
            have e2 := st2 _ _ (st _ _ ex)
            refine ⟨q, xs, _, rfl, rfl, e2, ltl (Nat.lt_of_le_of_lt ll (by decide)), ?_⟩
            refine ⟨_, (SameBut.refl q _).put.of (g1.trans (st.trans st2)) nq, ⟨xs ++ [.ref t2], upd_same, ?_⟩, rfl⟩
            rw [step true hb.symm, ← List.append_assoc, List.map_append]
            exact ((SameBut.refl q _).put.cells e2 (D.mono (st.trans st2))).append (.cons ((SameBut.refl q _).put.cell e2 den_cell) .nil)
          · refine ⟨_, g1.trans st, ⟨xs, st _ _ ex, ?_⟩, rfl⟩
            rw [step false hb.symm]
            simpa using D.mono st
        · obtain ⟨v4, g1, g2, rfl⟩ := hh
          exact ⟨_, _, g1, by rw [base0]; exact g2, rfl⟩
      · obtain ⟨v3, v4, g1, g2, rfl⟩ := hh
        exact hR _ _ ⟨v3, v4, ⟨g1, nq, g2⟩, rfl⟩
    rintro σ H3 ⟨v3, v4, fr, rfl⟩
    exact ⟨_, rfl, hq' q H3 fr⟩
end
end My
set_option Elab.async false
set_option linter.all false
set_option maxRecDepth 100000
set_option maxHeartbeats 1000000
namespace My
open PySem L2
theorem deps_cells : ∀ cs : List Cell, depDs (cs.map cellD) ≤ 1
  | [] => Nat.le_of_ble_eq_true rfl
  | c :: cs => by
    show max (depD (cellD c)) (depDs (cs.map cellD)) ≤ 1
    exact Nat.max_le.mpr ⟨Nat.le_of_ble_eq_true rfl, deps_cells cs⟩
theorem dep_cells (cs : List Cell) : depD (.lst (cs.map cellD)) ≤ 50 := by
  show depDs (cs.map cellD) + 1 ≤ 50
  have := deps_cells cs
  omega
theorem dep_strs : ∀ ws : List Str, depDs (ws.map Dt.str) = 0
  | [] => rfl
  | w :: ws => by rw [List.map_cons]; unfold depDs; rw [dep_strs ws]; rfl
theorem dep_lst (ws : List Str) : depD (.lst (ws.map Dt.str)) ≤ 50 := by unfold depD; rw [dep_strs]; decide
theorem den_txt {K : PySem.W.Frag} {H : Hp} {p : Addr} {ws : List Str} (h : H p = some (.lst (ws.map V.str))) : Den K H (.ref p) (.lst (ws.map Dt.str)) := .lst (SqL.of h) (Dens.strs ws)
theorem cells_all {K : PySem.W.Frag} {H : Hp} {a : Addr} {cs : List Cell} {xs : List V} {σ : L2.St} {Q : VK} {te : TE} (hS : SqL K H a xs) (D : Dens K H xs (cs.map cellD)) (hz : cs.length ≤ 1000)
    (ht : ∀ c ∈ cs, ∀ (v : V) (H' : Hp), Same H H' → Den K H' v (cellD c) → ∀ G : VK, (∀ H'', Same H' H'' → G (.bl true) H'') → te (some v :: σ) H' G)
    (hq : ∀ H', Same H H' → Q (.bl true) H') :
    ∃ W : Nat → Nat → List V → Hp → Prop, (∃ m, W 0 m [] H) ∧ CompW (Itl K a) tYes te σ (fun ys H2 => ∀ p, H2 p = none → rAll K [V.ref p] (upd H2 p (.lst ys)) Q) W := by
  refine comp_map (K := K) (xs := cs) (enc := cellD) (over_list hS) D (small (by omega)) (fun _ => Dt.bl true) (fun c hc v H' s d G hG => ?_) (fun ys H' s D p hp => ?_)
  · exact ht c hc v H' s d G fun H'' s'' => hG _ _ s'' (.bl _)
  · have e : ys = (cs.map fun _ => true).map V.bl := by
      refine Dens.of_bls (K := K) (H := H') ?_
      rw [List.map_map]; exact D
    refine ⟨p, cs.map fun _ => true, rfl, SqL.of (by rw [upd_same, e]), ?_⟩
    have e2 : (cs.map fun _ => true).all id = true := by rw [List.all_map]; exact List.all_eq_true.mpr fun _ _ => rfl
    rw [e2]
    exact hq _ (s.and hp)
def spPlaces (K : PySem.W.Frag) : Sp := fun vs H Q _ => ∃ (p : Addr) (v : V) (cs : List Cell), vs = [.ref p, v] ∧ Ls K H p (cs.map cellD) ∧ Den K H v (.lst (cs.map cellD)) ∧ cs.length ≤ 1000 ∧ ∀ H', Same H H' → Q (.bl true) H'
section
variable {P : Program} {w : World} {K : PySem.W.Frag} {mg : Str → Option Value} {base : Heap} {Z : Adr}
theorem ok_places {f : Addr} {fd : FuncData} (F : Fun K "_law_places" "_law_places" s__law_places f fd) (T : Txt K mg Z) (D__law_whole : Df P w K mg base 1 "_law_whole" ["found"] spWhole) : FnOk P w K mg base (CXE P w) 2 f fd ["found", "due"] (spPlaces K) := by
  refine F.rok sc__law_places (fun vs H Q E h => ?_) (fun cdv A outer s H vs Q E hr h => ?_)
  · obtain ⟨p, v, cs, rfl, _⟩ := h; rfl
  · obtain ⟨p, v, cs, rfl, ⟨xs, ex, D⟩, dv, hc, hq⟩ := h
    have hu := hu60 hr
    refine ⟨_, (rss_cons (rs_if (rt_b (rb_or (rt_not (rt_val (r_callB (k_isiG (K := K)) rfl T.b_isinstance bt_isinstance (ra_cons (rv 0) (ra_cons (r_ty T.b_list rfl bt_list) ra_nil))))) (rb_or1 (rt_cmp (op_ne.or (k_neD (K := K) hu)) (rv 0) (rv 1) (nomark _))))) (rss_one (rs_ret r_bl)) rss_nil) (rss_one (rs_ret (r_callB (k_all (K := K) rfl) rfl T.b_all bt_all (ra_cons (r_comp (by rfl) rfl (kri_list (K := K) (rv 0)) (fun _ _ _ => rif_nil) (fun _ _ _ => (r_and (r_callB (k_isiG (K := K)) rfl T.b_isinstance bt_isinstance (ra_cons (rv 0) (ra_cons (r_ty T.b_tuple rfl bt_tuple) ra_nil))) (r_and (r_def D__law_whole hr rfl passE (ra_cons (r_ix (k_ix (K := K)) (rv 0) r_int) ra_nil)) (r_one (r_def D__law_whole hr rfl passE (ra_cons (r_ix (k_ix (K := K)) (rv 0) r_int) ra_nil))))))) ra_nil))))), ?_⟩
    refine seq_mid (fun σ H1 => H1 = H ∧ σ = [some (.ref p), some v]) (fun R hR => ?_) ?_
    · refine ⟨_, rfl, .inr ⟨_, _, _, rfl, rfl, p, xs, true, rfl, .inr ⟨SqL.of ex, T.q_ll⟩, ?_⟩⟩
      refine ⟨_, rfl, iteF ?_⟩
      refine ⟨_, rfl, _, rfl, .inr ⟨_, _, rfl, .lst (SqL.of ex) D, dv, shD_refl _, dep_cells cs, _, rfl, ?_⟩⟩
      show if (!eqD _ _) = true then _ else _
      rw [eqD_refl]
      exact iteF (hR _ _ ⟨rfl, rfl⟩)
    rintro σ H1 ⟨rfl, rfl⟩
    refine ⟨_, rfl, p, rfl, ⟨_, SqL.of ex⟩, cells_all (SqL.of ex) D hc (fun c hc' u H2 s2 du G hG => ?_) hq⟩
    obtain ⟨t, rfl, ht, _⟩ := cell_ref du
    refine ⟨_, rfl, .inr ⟨_, _, _, rfl, rfl, t, _, true, rfl, .inl ⟨ht, T.q_tt⟩, ?_⟩⟩
    refine ⟨_, rfl, iteT ?_⟩
    refine ⟨_, rfl, rd_fst du ?_⟩
    refine ⟨_, rfl, _, rfl, iteT ?_⟩
    refine ⟨_, rfl, rd_snd du ?_⟩
    exact ⟨_, rfl, hG _ (Same.refl _)⟩
end
end My
set_option Elab.async false
set_option linter.all false
set_option maxRecDepth 100000
set_option maxHeartbeats 1000000
namespace My
open PySem L2
theorem dens_mem {K : PySem.W.Frag} {H : Hp} {xs : List V} {cs : List Cell} {v : V} (D : Dens K H xs (cs.map cellD)) (h : v ∈ xs) : ∃ c ∈ cs, Den K H v (cellD c) := by
  obtain ⟨i, hi⟩ := List.mem_iff_getElem?.mp h
  obtain ⟨d, ed, dd⟩ := D.get hi
  rw [List.getElem?_map] at ed
  obtain ⟨c, ec, rfl⟩ := Option.map_eq_some_iff.mp ed
  exact ⟨c, List.mem_of_getElem? ec, dd⟩
def spLaying (K : PySem.W.Frag) (C : Addr) : Sp := fun vs H Q _ => ∃ (x l : Addr) (zs : List Str) (w : Nat) (cs : List Cell), vs = [.ref x, .ref l] ∧ ViewAt C H x zs w ∧ Ls K H l (cs.map cellD) ∧ cs.length ≤ 1000 ∧ ∀ H', Same H H' → Q (.bl (layB zs w cs)) H'
def spStones (K : PySem.W.Frag) (C : Addr) : Sp := fun vs H Q _ => ∃ (x l : Addr) (v : V) (zs : List Str) (w : Nat) (c : Cell) (cs : List Cell), vs = [.ref x, v, .ref l] ∧ ViewAt C H x zs w ∧ Den K H v (cellD c) ∧ inF zs.length w c ∧ Ls K H l (cs.map cellD) ∧ ∀ H', Same H H' → Q (.int (stonesN zs.length w c cs)) H'
section
variable {P : Program} {w : World} {K : PySem.W.Frag} {mg : Str → Option Value} {base : Heap} {Z : Adr}
theorem ok_islaying {f : Addr} {fd : FuncData} (F : Fun K "is_laying" "is_laying" s_is_laying f fd) (T : Txt K mg Z) (D_is_closed : Df P w K mg base 2 "is_closed" ["view", "cell"] (spIsClosed K Z.View)) : FnOk P w K mg base (CXE P w) 3 f fd ["view", "laying"] (spLaying K Z.View) := by
  refine F.rok sc_is_laying (fun vs H Q E h => ?_) (fun cdv A outer s H vs Q E hr h => ?_)
  · obtain ⟨x, l, zs, w, cs, rfl, _⟩ := h; rfl
  · obtain ⟨x, l, zs, w, cs, rfl, vt, ⟨us, eu, D⟩, hc, hq⟩ := h
    have hu := hu60 hr
    have lu : us.length = cs.length := by rw [D.length, List.length_map]
    refine ⟨_, (rss_cons (rs_for PassesOwn.never rfl (ri_range2 rfl T.b_range (ra_cons r_int (ra_cons (r_callB (k_len (K := K)) rfl T.b_len bt_len (ra_cons (rv 1) ra_nil)) ra_nil))) (rg_name (i := 2) sc_is_laying.nd rfl (by first | exact Or.inl rfl | exact Or.inr rfl)) (rss_one (rs_if (rt_cmp (k_geC (K := K) hu) (r_ix (k_ix (K := K)) (rv 1) (r_op op_sub (rv 2) r_int)) (r_ix (k_ix (K := K)) (rv 1) (rv 2)) (nomark _)) (rss_one (rs_ret r_bl)) rss_nil))) (rss_one (rs_ret (r_callB (k_all (K := K) rfl) rfl T.b_all bt_all (ra_cons (r_comp (by rfl) rfl (kri_list (K := K) (rv 1)) (fun _ _ _ => rif_nil) (fun _ _ _ => (r_def D_is_closed hr rfl passE (ra_cons (rv 1) (ra_cons (rv 0) ra_nil))))) ra_nil))))), ?_⟩
    refine seq_mid (fun σ H1 => ∃ v2 : Option V, H1 = H ∧ ascB cs = true ∧ σ = [some (.ref x), some (.ref l), v2]) (fun R hR => ?_) ?_
    · refine ⟨_, rfl, .inl ⟨l, _, rfl, .inl (SqL.of eu), _, _, rfl, ?_⟩⟩
      refine ⟨⟨by omega, by omega, by omega, by omega⟩, ?_⟩
      refine for_range (lo := 1) (n := ((us.length : Int) - 1).toNat) (fun i σ H1 => ∃ v2 : Option V, H1 = H ∧ (∀ j, j < i → cltB (cs.getD j (0, 0)) (cs.getD (j + 1) (0, 0)) = true) ∧ σ = [some (.ref x), some (.ref l), v2]) ⟨none, rfl, fun j hj => absurd hj (Nat.not_lt_zero _), rfl⟩ (fun i σ H1 hi hh => ?_) (fun σ H1 hh => ?_)
      · obtain ⟨v2, rfl, g, rfl⟩ := hh
        have b1 : i < us.length := by omega
        have b2 : i + 1 < us.length := by omega
        have e1 : us[i]? = some us[i] := by simp [b1]
        have e2 : us[i + 1]? = some us[i + 1] := by simp [b2]
        obtain ⟨d1, f1, D1⟩ := D.get e1
        obtain ⟨d2, f2, D2⟩ := D.get e2
        rw [List.getElem?_map] at f1 f2
        obtain ⟨c1, g1, rfl⟩ := Option.map_eq_some_iff.mp f1
        obtain ⟨c2, g2, rfl⟩ := Option.map_eq_some_iff.mp f2
        have a1 : atI us (1 + (i : Int) - 1) = some us[i] := by
          have : (1 + (i : Int) - 1) = ((i : Nat) : Int) := by omega
          rw [this]; exact atI_nat e1
        have a2 : atI us (1 + (i : Int)) = some us[i + 1] := by
          have : (1 + (i : Int)) = ((i + 1 : Nat) : Int) := by omega
          rw [this]; exact atI_nat e2
        have k1 : cs.getD i (0, 0) = c1 := by rw [List.getD_eq_getElem?_getD, g1]; rfl
        have k2 : cs.getD (i + 1) (0, 0) = c2 := by rw [List.getD_eq_getElem?_getD, g2]; rfl
        refine ⟨_, rfl, _, rfl, _, _, rfl, rfl, .inl ⟨l, _, _, _, rfl, rfl, SqL.of eu, a1, ?_⟩⟩
        refine ⟨_, rfl, _, rfl, .inl ⟨l, _, _, _, rfl, rfl, SqL.of eu, a2, ?_⟩⟩
        refine ⟨c1, c2, D1, D2, _, rfl, ?_⟩
        refine ite_b (fun h1 => ?_) (fun h1 => ?_)
        · have : layB zs w cs = false := by
            unfold layB
            have : ascB cs = false := by
              cases e : ascB cs
              · rfl
              · unfold ascB at e
                rw [List.all_eq_true] at e
                have := e i (List.mem_range.mpr (by omega))
                rw [k1, k2] at this
                rw [this] at h1; cases h1
            rw [this, Bool.false_and]
          rw [← this]
          exact hq _ (Same.refl _)
        · refine ⟨_, rfl, fun j hj => ?_, rfl⟩
          by_cases hj' : j < i
          · exact g j hj'
          · have : j = i := by omega
            subst this
            rw [k1, k2]
            simpa using h1
      · obtain ⟨v2, rfl, g, rfl⟩ := hh
        refine hR _ _ ⟨v2, rfl, ?_, rfl⟩
        unfold ascB
        rw [List.all_eq_true]
        intro j hj
        rw [List.mem_range] at hj
        exact g j (by omega)
    rintro σ H1 ⟨v2, rfl, ha, rfl⟩
    have eq : layB zs w cs = cs.all (closedB zs w) := by unfold layB; rw [ha, Bool.true_and]
    rw [eq] at hq
    refine ⟨_, rfl, l, rfl, ⟨_, SqL.of eu⟩, comp_map (K := K) (xs := cs) (enc := cellD) (over_list (SqL.of eu)) D (small (by omega)) (fun c => Dt.bl (closedB zs w c)) (fun c hc' v H2 s2 d G hG => ?_) (fun ys H2 s2 D2 p hp => ?_)⟩
    · exact ⟨_, rfl, _, rfl, x, v, zs, w, c, rfl, vt.mono s2, d, hG _ _ (Same.refl _) (.bl _)⟩
    · have e : ys = (cs.map (closedB zs w)).map V.bl := by
        refine Dens.of_bls (K := K) (H := H2) ?_
        rw [List.map_map]; exact D2
      refine ⟨p, cs.map (closedB zs w), rfl, SqL.of (by rw [upd_same, e]), ?_⟩
      rw [List.all_map]
      exact hq _ (s2.and hp)
theorem ok_stones {f : Addr} {fd : FuncData} (F : Fun K "stones_near" "stones_near" s_stones_near f fd) (T : Txt K mg Z) (D_near : Df P w K mg base 2 "near" ["view", "cell"] (spPNear K Z.View Z.NoCell)) : FnOk P w K mg base (CXE P w) 3 f fd ["view", "cell", "laying"] (spStones K Z.View) := by
  refine F.rok sc_stones_near (fun vs H Q E h => ?_) (fun cdv A outer s H vs Q E hr h => ?_)
  · obtain ⟨x, l, v, zs, w, c, cs, rfl, _⟩ := h; rfl
  · obtain ⟨x, l, v, zs, w, c, cs, rfl, vt, dv, hin, hl, hq⟩ := h
    have hu := hu60 hr
    have hu' := hu61 hr
    refine ⟨_, (rss_one (rs_ret (r_callB (k_len (K := K)) rfl T.b_len bt_len (ra_cons (r_comp (by rfl) rfl (kri_list (K := K) (r_def D_near hr rfl passE (ra_cons (rv 0) (ra_cons (rv 1) ra_nil)))) (fun _ _ _ => (rif_one (rt_cmp (op_in_str.or (k_inD (K := K) hu')) (rv 0) (rv 3) (by rfl)))) (fun _ _ _ => (rv 0))) ra_nil)))), ?_⟩
    refine ⟨_, rfl, _, rfl, x, v, zs, w, c, rfl, vt, dv, fun _ q H1 fr => ?_, fun z => absurd hin z⟩
    obtain ⟨xs, ex, D⟩ := fr.ls
    refine ⟨q, rfl, ⟨_, SqL.of ex⟩, comp_den (K := K) (xs := lnear zs.length w c) (enc := cellD) (over_list (SqL.of ex)) D (small (by have := lnear_len zs.length w c; omega)) (fun y => decide (y ∈ cs)) cellD (fun y hy u H2 s2 d G hG => ?_) (fun y hy _ u H2 s2 d G hG => ⟨_, rfl, hG _ _ (Same.refl _) d⟩) (fun ys H2 s2 D2 q2 hq2 => ?_)⟩
    · exact ⟨_, rfl, _, rfl, .inr (rd_in d (hl.mono (fr.same.trans s2)).den ⟨_, rfl, hG _ (Same.refl _)⟩)⟩
    · refine .inl ⟨q2, _, rfl, .inl (SqL.of upd_same), ?_⟩
      rw [D2.length, List.length_map]
      exact hq _ (fr.same.trans (s2.and hq2))
end
end My
set_option Elab.async false
set_option linter.all false
set_option maxRecDepth 100000
set_option maxHeartbeats 1000000
namespace My
open PySem L2
theorem flat_one (z : V) : ∀ k : Nat, (List.replicate k [z]).flatten = List.replicate k z
  | 0 => rfl
  | k + 1 => by rw [List.replicate_succ, List.flatten_cons, flat_one z k, List.replicate_succ]; rfl
theorem blank_row (h w : Nat) (r : Int) (w1 : 1 ≤ w) (w6 : w ≤ 6) : rowN h w [] [] r w = repS "#" w := by
  have : ∀ k, k ≤ 6 → 1 ≤ k → rowN h w [] [] r k = repS "#" (k : Int) := by
    intro k hk h1
    have e : rowN h w [] [] r k = ⟨(List.replicate k 35).toArray⟩ := by
      unfold rowN
      have : ((List.range k).map fun c : Nat => sgnN h w [] [] (r, (c : Int))) = List.replicate k 35 := by
        rw [List.eq_replicate_iff]
        refine ⟨by rw [List.length_map, List.length_range], fun b hb => ?_⟩
        obtain ⟨c, _, rfl⟩ := List.mem_map.mp hb
        rfl
      rw [this]
    rw [e]
    have all := (by decide +kernel : ∀ k ∈ [1, 2, 3, 4, 5, 6], (⟨(List.replicate k 35).toArray⟩ : Str) = repS "#" ((k : Nat) : Int))
    refine all k ?_
    match k, h1, hk with
    | 1, _, _ => decide
    | 2, _, _ => decide
    | 3, _, _ => decide
    | 4, _, _ => decide
    | 5, _, _ => decide
    | 6, _, _ => decide
  exact this w w6 w1
theorem blank_eq (h w : Nat) (w1 : 1 ≤ w) (w6 : w ≤ 6) : (blankL h w).map V.str = List.replicate h (V.str (repS "#" w)) := by
  unfold blankL shownL
  rw [List.map_map, List.eq_replicate_iff]
  refine ⟨by rw [List.length_map, List.length_range], fun b hb => ?_⟩
  obtain ⟨r, _, rfl⟩ := List.mem_map.mp hb
  show V.str (rowN h w [] [] (r : Int) w) = _
  rw [blank_row h w r w1 w6]
theorem blank_len (h w : Nat) : (blankL h w).length = h := by
  unfold blankL shownL; rw [List.length_map, List.length_range]
theorem few3 {a b c : Str} {u v z : V} : (putF a v (putF b u (putF c z []))).length < 1000 := by
  have h1 := length_putF a v (putF b u (putF c z []))
  have h2 := length_putF b u (putF c z [])
  have h3 := length_putF c z []
  simp only [List.length_nil] at h3
  omega
theorem game_but {K : PySem.W.Frag} {C CV : Addr} {H H' : Hp} {p g : Addr} {h w : Nat} {st kn cs : List Cell} {us : List V} {lost : Bool} {f hd d : Addr} (G : GameAt K C CV H g h w st kn lost f hd d) (s : SameBut p H H') (hp : H p = some (.lst us)) (D : Dens K H us (cs.map cellD)) (n : p ≠ hd) : GameAt K C CV H' g h w st kn lost f hd d := by
  obtain ⟨dx, e⟩ := G.ob
  obtain ⟨dy, ly, e1, e2⟩ := G.fl.ob
  have nly : ly ≠ p := by
    intro z
    rw [z, hp] at e2
    injection e2 with e2
    injection e2 with e2
    obtain ⟨z0, zt, ez, _⟩ := G.fl.vw.toRect.head
    rw [ez] at e2
    subst e2
    cases cs with
    | nil => cases D
    | cons c cs =>
      cases D with
      | cons d0 _ =>
        obtain ⟨a, ea, _⟩ := cell_ref d0
        cases ea
  refine ⟨⟨dx, s _ _ e (ne_of hp e (by intro z; cases z)).symm⟩, ⟨⟨dy, ly, s _ _ e1 (ne_of hp e1 (by intro z; cases z)).symm, s _ _ e2 nly⟩, G.fl.vw⟩, s.ls hp n.symm G.hs, s _ _ G.dc (ne_of hp G.dc (by intro z; cases z)).symm⟩
def spGInit (K : PySem.W.Frag) (C CV BV BL : Addr) : Sp := fun vs H Q E => ∃ (x dx l : Addr) (h w : Int) (cs : List Cell), vs = [.ref x, .int h, .int w, .ref l] ∧ H x = some (.ins C dx []) ∧ Ls K H l (cs.map cellD) ∧ cs.length ≤ 1000 ∧
  (sizeB h w = false → ∀ H', Same H H' → E (.ref BV) none H') ∧
  (sizeB h w = true → layB (blankL h.toNat w.toNat) w.toNat cs = false → ∀ H', Same H H' → E (.ref BL) none H') ∧
  (sizeB h w = true → layB (blankL h.toNat w.toNat) w.toNat cs = true → ∀ H' (f hd d : Addr), H f = none → H hd = none → H d = none → hd ≠ d → f ≠ x → hd ≠ x → d ≠ x → GameAt K C CV H' x h.toNat w.toNat cs [] false f hd d → (∀ b o, H b = some o → b ≠ x → H' b = some o) → Q .non H')
theorem join_ones (g : Nat → Nat) : ∀ l : List Nat, PySem.Txt.join "" (l.map fun c : Nat => (⟨#[g c]⟩ : Str)) = ⟨(l.map g).toArray⟩ := by
  have go : ∀ (l : List Nat) (acc : Array Nat), ((l.map fun c : Nat => (⟨#[g c]⟩ : Str)).foldl (fun acc p => acc ++ ("" : Str).cps ++ p.cps) acc) = acc ++ (l.map g).toArray := by
    intro l
    induction l with
    | nil => intro acc; simp
    | cons a l ih =>
      intro acc
      rw [List.map_cons, List.foldl_cons, ih]
      have e : ("" : Str).cps = #[] := by decide +kernel
      rw [e]
      simp
  intro l
  cases l with
  | nil => rfl
  | cons a l =>
    show (⟨(l.map fun c : Nat => (⟨#[g c]⟩ : Str)).foldl (fun acc p => acc ++ ("" : Str).cps ++ p.cps) #[g a]⟩ : Str) = _
    rw [go]; simp
theorem join_row (h w : Int) (st kn : List Cell) (r : Int) (n : Nat) : PySem.Txt.join "" ((List.range n).map fun c : Nat => (⟨#[sgnN h w st kn (r, (c : Int))]⟩ : Str)) = rowN h w st kn r n := join_ones (fun c => sgnN h w st kn (r, (c : Int))) (List.range n)
def stateS (h w : Nat) (st kn : List Cell) (lost : Bool) : Str := if lost = true then "lost" else if kn.length + st.length = h * w then "won" else "on"
def spGState (K : PySem.W.Frag) (C CV : Addr) : Sp := fun vs H Q _ => ∃ (g : Addr) (h w : Nat) (st kn : List Cell) (lost : Bool) (f hd d : Addr), vs = [.ref g] ∧ GameAt K C CV H g h w st kn lost f hd d ∧ Q (.str (stateS h w st kn lost)) H
def spGView (K : PySem.W.Frag) (C CV : Addr) : Sp := fun vs H Q _ => ∃ (g : Addr) (h w : Nat) (st kn : List Cell) (lost : Bool) (f hd d : Addr), vs = [.ref g] ∧ GameAt K C CV H g h w st kn lost f hd d ∧
  ∀ x H', H x = none → Same H H' → ViewAt CV H' x (shownL h w st kn) w → Q (.ref x) H'
theorem spGState.mk {K : PySem.W.Frag} {C CV g f hd d : Addr} {H : Hp} {Q : VK} {E : XK} {h w : Nat} {st kn : List Cell} {lost : Bool} (G : GameAt K C CV H g h w st kn lost f hd d) (q : Q (.str (stateS h w st kn lost)) H) : spGState K C CV [.ref g] H Q E := ⟨g, h, w, st, kn, lost, f, hd, d, rfl, G, q⟩
theorem spGView.mk {K : PySem.W.Frag} {C CV g f hd d : Addr} {H : Hp} {Q : VK} {E : XK} {h w : Nat} {st kn : List Cell} {lost : Bool} (G : GameAt K C CV H g h w st kn lost f hd d) (q : ∀ x H', H x = none → Same H H' → ViewAt CV H' x (shownL h w st kn) w → Q (.ref x) H') : spGView K C CV [.ref g] H Q E := ⟨g, h, w, st, kn, lost, f, hd, d, rfl, G, q⟩
theorem rd_gfld {K : PySem.W.Frag} {C CV g f hd d : Addr} {H : Hp} {Q : VK} {h w : Nat} {st kn : List Cell} {lost : Bool} {m : Str} {v : V} {ta : TE} {σ : L2.St} (G : GameAt K C CV H g h w st kn lost f hd d) (ha : ∀ Q' : VK, Q' (.ref g) H → ta σ H Q') (hc : Cls K C) (hn : NoAttr K C m) (hl : (fGame f hd d lost).lookup m = some v) (q : Q v H) : tFld K ta m σ H Q :=
  ha _ (let ⟨dx, e⟩ := G.ob; ⟨g, C, dx, _, _, rfl, e, hc, hn, hl, q⟩)
theorem rd_meth0 {K : PySem.W.Frag} {C CV g f hd d : Addr} {H : Hp} {Q : VK} {E : XK} {h w : Nat} {st kn : List Cell} {lost : Bool} {m : Str} {sp : Sp} {ta : TE} {σ : L2.St} (G : GameAt K C CV H g h w st kn lost f hd d) (hm : m ≠ "lost" ∧ m ≠ "figures" ∧ m ≠ "hidden" ∧ m ≠ "field") (ha : ∀ Q' : VK, Q' (.ref g) H → ta σ H Q') (q : sp [.ref g] H Q E) : tMeth C m sp [] E ta tNil σ H Q :=
  ha _ (let ⟨dx, e⟩ := G.ob; ⟨g, dx, _, rfl, e, g_none _ _ _ _ hm.1 hm.2.1 hm.2.2.1 hm.2.2.2, q⟩)
section
variable {P : Program} {w : World} {K : PySem.W.Frag} {mg : Str → Option Value} {base : Heap} {Z : Adr}
theorem ok_ginit {f : Addr} {fd : FuncData} (F : Fun K "__init__" "Game.__init__" s_Game___init__ f fd) (T : Txt K mg Z) (D_is_size : Df P w K mg base 1 "is_size" ["height", "width"] spSize) (M_View : Md P w K mg base 3 "View" ["self", "rows"] Z.View (spInit K Z.View Z.BadView)) (D_is_laying : Df P w K mg base 3 "is_laying" ["view", "laying"] (spLaying K Z.View)) :
    FnOk P w K mg base (CXE P w) 5 f fd ["self", "height", "width", "stones"] (spGInit K Z.Game Z.View Z.BadView Z.BadLaying) := by
  refine F.rokE sc_Game___init__ (fun vs H Q E h => ?_) (fun cdv A outer s H vs Q E hr h => ?_)
  · obtain ⟨x, dx, l, h, w, cs, rfl, _⟩ := h; rfl
  · obtain ⟨x, dx, l, h, w, cs, rfl, hx, hl, hc, e1, e2, hq⟩ := h
    have hd := hd_of hr
    have hu := hu60 hr
    refine ⟨_, (rss_cons (rs_if (RT.nox (rt_not (rt_val (r_def D_is_size hr rfl passE (ra_cons (rv 1) (ra_cons (rv 2) ra_nil)))))) (rss_one (rs_raise T.x_BadView rfl T.c_BadView hd (ra_cons r_str ra_nil))) rss_nil) (rss_cons (RS.nox (rs_set (i := 4) sc_Game___init__.nd rfl (by first | exact Or.inl rfl | exact Or.inr rfl) (r_make M_View hr rfl passE (ra_cons (r_op op_mulG (r_lst (ra_cons (r_op op_mulG (r_gstr T.g_CLOSED_SIGN rfl) (rv 2)) ra_nil)) (rv 1)) ra_nil)))) (rss_cons (rs_if (RT.nox (rt_not (rt_val (r_def D_is_laying hr rfl passE (ra_cons (rv 4) (ra_cons (rv 3) ra_nil)))))) (rss_one (rs_raise T.x_BadLaying rfl T.c_BadLaying hd (ra_cons r_str ra_nil))) rss_nil) (rss_cons (RS.nox (rs_fld (rv 0) (rv 4))) (rss_cons (RS.nox (rs_fld (rv 0) (r_callTy (k_list (K := K)) rfl T.b_list bt_list (ra_cons (rv 3) ra_nil)))) (rss_cons (RS.nox (rs_fld (rv 0) r_dnewT)) (rss_one (RS.nox (rs_fld (rv 0) r_bl))))))))), ?_⟩
    refine seq_mid (fun σ H1 => sizeB h w = true ∧ H1 = H ∧ σ = [some (.ref x), some (.int h), some (.int w), some (.ref l), none]) (fun R hR => ?_) ?_
    · refine ⟨_, rfl, _, rfl, _, _, rfl, _, rfl, ?_⟩
      refine ite_b (fun h1 => ⟨by decide, e1 (by simpa only [Bool.not_eq_true'] using h1) _ (Same.refl _)⟩) (fun h1 => hR _ _ ⟨by simpa only [Bool.not_eq_false'] using h1, rfl, rfl⟩)
    rintro σ H ⟨hsz, rfl, rfl⟩
    obtain ⟨⟨h1, h6⟩, w1, w6⟩ := size_iff.mp hsz
    obtain ⟨m, rfl⟩ : ∃ m : Nat, h = (m : Int) := ⟨h.toNat, by omega⟩
    obtain ⟨n, rfl⟩ : ∃ n : Nat, w = (n : Int) := ⟨w.toNat, by omega⟩
    rw [Int.toNat_natCast, Int.toNat_natCast] at e2 hq
    have vw : Vw (blankL m n) n := shown_vw (by omega) (by omega) (by omega) (by omega)
    have bl := blank_len m n
    refine seq_mid (fun σ H1 => ∃ y : Addr, H y = none ∧ Same H H1 ∧ ViewAt Z.View H1 y (blankL m n) n ∧ σ = [some (.ref x), some (.int m), some (.int n), some (.ref l), some (.ref y)]) (fun R hR => ?_) ?_
    · refine ⟨_, rfl, by decide, by omega, by omega, sz rfl, fun p hp => ?_⟩
      refine ⟨_, rfl, _, upd_same, by omega, by omega, small (by show 1 * _ ≤ 10000; omega), fun q hq' => ?_⟩
      have eL : (List.replicate ((m : Nat) : Int).toNat [V.str (repS "#" (n : Int))]).flatten = (blankL m n).map V.str := by rw [Int.toNat_natCast, flat_one, blank_eq m n (by omega) (by omega)]
      rw [eL]
      have sq := (Same.put (o := .lst [V.str (repS "#" (n : Int))]) hp).and (o := .lst ((blankL m n).map V.str)) hq'
      intro y dy ny ndy ney
      have n2 : (upd (upd (upd H p (.lst [V.str (repS "#" (n : Int))])) q (.lst ((blankL m n).map V.str))) dy (.own y)) y = none := by rw [upd_ne ney.symm]; exact ny
      have s6 := (Same.put (o := .own y) ndy).and (o := .ins Z.View dy []) n2
      obtain ⟨z0, zt, ez, hz0⟩ := vw.toRect.head
      refine ⟨y, dy, q, blankL m n, rfl, upd_same, SqL.of (s6 _ _ upd_same), by omega, fun r hr' => by have := vw.len r hr'; omega, fun hv => (by rw [vw.ok] at hv; cases hv), fun _ H' lr z0' zt' e nlr nlx hlr hx' keep => ⟨rfl, ?_⟩⟩
      have e0 : z0'.length = n := vw.len z0' (by rw [e]; exact List.mem_cons_self)
      have n1 : H y = none := sq.free ny
      refine hR _ _ ⟨y, n1, fun b o hb => keep b o (s6 _ _ (sq _ _ hb)) (ne_of_none hb n1), ⟨⟨dy, lr, ?_, hlr⟩, vw⟩, rfl⟩
      rw [e0] at hx'; exact hx'
    rintro σ H1 ⟨y, ny, s1, vt, rfl⟩
    refine seq_mid (fun σ H2 => layB (blankL m n) n cs = true ∧ Same H H2 ∧ ViewAt Z.View H2 y (blankL m n) n ∧ σ = [some (.ref x), some (.int m), some (.int n), some (.ref l), some (.ref y)]) (fun R hR => ?_) ?_
    · refine ⟨_, rfl, _, rfl, y, l, _, n, cs, rfl, vt, hl.mono s1, hc, fun H2 s2 => ⟨_, rfl, ?_⟩⟩
      refine ite_b (fun h1 => ⟨by decide, e2 hsz (by simpa only [Bool.not_eq_true'] using h1) _ (s1.trans s2)⟩) (fun h1 => hR _ _ ⟨by simpa only [Bool.not_eq_false'] using h1, s1.trans s2, vt.mono s2, rfl⟩)
    rintro σ H2 ⟨hlay, s2, vt2, rfl⟩
    obtain ⟨us, eu, Du⟩ := hl.mono s2
    have hx2 := s2 _ _ hx
    obtain ⟨dy, ly, hy2, hly2⟩ := vt2.ob
    have nyx : y ≠ x := (ne_of_none hx ny).symm
    have nlx : l ≠ x := ne_of eu hx2 (by intro z; cases z)
    have nlyx : ly ≠ x := ne_of hly2 hx2 (by intro z; cases z)
    refine ⟨_, rfl, _, rfl, x, Z.Game, dx, _, rfl, hx2, T.cl_Game, T.n_Game_field, (by show 0 < 1000; decide), ?_⟩
    have eu' : (upd H2 x (.ins Z.Game dx (putF "field" (.ref y) []))) l = some (.lst us) := by rw [upd_ne nlx]; exact eu
    refine ⟨_, rfl, l, _, rfl, .inl (SqL.of eu'), fun hd' nhd => ?_⟩
    have nhx : hd' ≠ x := fun z => by rw [z, upd_same] at nhd; cases nhd
    have nh2 : H2 hd' = none := by rwa [upd_ne nhx] at nhd
    refine ⟨_, rfl, x, Z.Game, dx, _, rfl, (by rw [upd_ne nhx.symm]; exact upd_same), T.cl_Game, T.n_Game_hidden, (by show 1 < 1000; decide), fun d nd => ?_⟩
    have ndx : d ≠ x := fun z => by rw [z, upd_same] at nd; cases nd
    have ndh : d ≠ hd' := fun z => by rw [z, upd_ne nhx, upd_same] at nd; cases nd
    have nd2 : H2 d = none := by rwa [upd_ne ndx, upd_ne ndh, upd_ne ndx] at nd
    refine ⟨_, rfl, x, Z.Game, dx, _, rfl, (by rw [upd_ne ndx.symm]; exact upd_same), T.cl_Game, T.n_Game_figures, few2, ?_⟩
    refine ⟨_, rfl, x, Z.Game, dx, _, rfl, upd_same, T.cl_Game, T.n_Game_lost, few3, ?_⟩
    have keep : ∀ b o, H2 b = some o → b ≠ x → (upd (upd (upd (upd (upd (upd H2 x (.ins Z.Game dx (putF "field" (.ref y) []))) hd' (.lst us)) x (.ins Z.Game dx (putF "hidden" (.ref hd') (putF "field" (.ref y) [])))) d (.dT [])) x (.ins Z.Game dx (putF "figures" (.ref d) (putF "hidden" (.ref hd') (putF "field" (.ref y) []))))) x (.ins Z.Game dx (fGame y hd' d false))) b = some o := fun b o e nb => by
      rw [upd_ne nb, upd_ne nb, upd_ne (ne_of_none e nd2), upd_ne nb, upd_ne (ne_of_none e nh2), upd_ne nb]; exact e
    have tp : Tups H2 (upd (upd (upd (upd (upd (upd H2 x (.ins Z.Game dx (putF "field" (.ref y) []))) hd' (.lst us)) x (.ins Z.Game dx (putF "hidden" (.ref hd') (putF "field" (.ref y) [])))) d (.dT [])) x (.ins Z.Game dx (putF "figures" (.ref d) (putF "hidden" (.ref hd') (putF "field" (.ref y) []))))) x (.ins Z.Game dx (fGame y hd' d false))) := fun b xs e => keep b _ e (ne_of e hx2 (by intro z; cases z))
    refine hq hsz hlay _ y hd' d ny (s2.free nh2) (s2.free nd2) ndh.symm nyx nhx ndx ⟨⟨dx, upd_same⟩, ⟨⟨dy, ly, keep _ _ hy2 nyx, keep _ _ hly2 nlyx⟩, vt2.vw⟩, ⟨us, ?_, tp.cells Du⟩, ?_⟩ (fun b o e nb => keep b o (s2 _ _ e) nb)
    · rw [upd_ne nhx, upd_ne nhx, upd_ne ndh.symm, upd_ne nhx, upd_same]
    · rw [upd_ne ndx, upd_ne ndx, upd_same]; rfl
theorem ok_gstate {f : Addr} {fd : FuncData} (F : Fun K "state" "Game.state" s_Game_state f fd) (T : Txt K mg Z) : FnOk P w K mg base (CXE P w) 1 f fd ["self"] (spGState K Z.Game Z.View) := by
  refine F.rok sc_Game_state (fun vs H Q E h => ?_) (fun cdv A outer s H vs Q E hr h => ?_)
  · obtain ⟨g, h, w, st, kn, lost, f, hd, d, rfl, _⟩ := h; rfl
  · obtain ⟨g, h, w, st, kn, lost, f, hd, d, rfl, G, hq⟩ := h
    have hu := hu60 hr
    obtain ⟨dx, hg⟩ := G.ob
    obtain ⟨dy, ly, hf, hly⟩ := G.fl.ob
    obtain ⟨us, eu, Du⟩ := G.hs
    have w6 := G.fl.vw.w6
    have h6 := G.fl.vw.le
    rw [blank_len] at h6 hf
    refine ⟨_, (rss_cons (rs_if (rt_val (kr_fld (K := K) (rv 0))) (rss_one (rs_ret r_str)) rss_nil) (rss_cons (rs_if (rt_cmp (op_eq.or (k_eqD (K := K) hu)) (r_op op_addG (r_callB (k_lenE (K := K)) rfl T.b_len bt_len (ra_cons (kr_fld (K := K) (rv 0)) ra_nil)) (r_callB (k_lenE (K := K)) rfl T.b_len bt_len (ra_cons (kr_fld (K := K) (rv 0)) ra_nil))) (r_op op_mulG (kr_fld (K := K) (kr_fld (K := K) (rv 0))) (kr_fld (K := K) (kr_fld (K := K) (rv 0)))) (nomark _)) (rss_one (rs_ret r_str)) rss_nil) (rss_one (rs_ret r_str)))), ?_⟩
    refine rd_gfld G (fun _ q => ⟨_, rfl, q⟩) T.cl_Game T.n_Game_lost (g_lost _ _ _ _) ⟨_, rfl, ?_⟩
    unfold stateS at hq
    refine ite_b (fun h1 => ?_) (fun h1 => ?_)
    · rw [if_pos h1] at hq; exact hq
    rw [if_neg (by rw [h1]; decide)] at hq
    refine ⟨_, rfl, g, Z.Game, dx, _, _, rfl, hg, T.cl_Game, T.n_Game_figures, g_figures _ _ _ _, .inr ⟨d, _, rfl, G.dc, ?_⟩⟩
    refine ⟨_, rfl, g, Z.Game, dx, _, _, rfl, hg, T.cl_Game, T.n_Game_hidden, g_hidden _ _ _ _, .inl (.inl ⟨hd, _, rfl, .inl (SqL.of eu), ?_⟩)⟩
    refine ⟨_, rfl, g, Z.Game, dx, _, _, rfl, hg, T.cl_Game, T.n_Game_field, g_field _ _ _ _, f, Z.View, dy, _, _, rfl, hf, T.cl_View, T.n_View_height, f_height _ _ _, ?_⟩
    refine ⟨_, rfl, g, Z.Game, dx, _, _, rfl, hg, T.cl_Game, T.n_Game_field, g_field _ _ _ _, f, Z.View, dy, _, _, rfl, hf, T.cl_View, T.n_View_width, f_width _ _ _, .inl ⟨by omega, by omega⟩, .inl ⟨rfl, _, rfl, ?_⟩⟩
    have l1 : (figsL h w st kn).length = kn.length := by unfold figsL; rw [List.length_map]
    have l2 : us.length = st.length := by rw [Du.length, List.length_map]
    rw [dec_v, l1, l2]
    have ed : decide (((kn.length : Nat) : Int) + ((st.length : Nat) : Int) = (h : Int) * (w : Int)) = decide (kn.length + st.length = h * w) := by
      rw [decide_eq_decide]; omega
    rw [ed]
    refine ite_b (fun h2 => ?_) (fun h2 => ?_)
    · rw [if_pos (of_decide_eq_true h2)] at hq; exact hq
    · rw [if_neg (of_decide_eq_false h2)] at hq; exact hq
theorem ok_gview {f : Addr} {fd : FuncData} (F : Fun K "view" "Game.view" s_Game_view f fd) (T : Txt K mg Z) (M_View : Md P w K mg base 3 "View" ["self", "rows"] Z.View (spInit K Z.View Z.BadView)) : FnOk P w K mg base (CXE P w) 5 f fd ["self"] (spGView K Z.Game Z.View) := by
  refine F.rok sc_Game_view (fun vs H Q E h => ?_) (fun cdv A outer s H vs Q E hr h => ?_)
  · obtain ⟨g, h, w, st, kn, lost, f, hd, d, rfl, _⟩ := h; rfl
  · obtain ⟨g, h, w, st, kn, lost, f, hd, d, rfl, G, hq⟩ := h
    have hu := hu60 hr
    have w1 := G.fl.vw.w1
    have w6 := G.fl.vw.w6
    have h6 := G.fl.vw.le
    have h1 := G.fl.vw.toRect.head
    rw [blank_len] at h6
    have h1 : 1 ≤ h := by
      obtain ⟨z, zt, e, _⟩ := h1
      have := congrArg List.length e
      rw [blank_len, List.length_cons] at this; omega
    refine ⟨_, (rss_cons (rs_set (i := 1) sc_Game_view.nd rfl (by first | exact Or.inl rfl | exact Or.inr rfl) (r_lst ra_nil)) (rss_cons (rs_for PassesOwn.never rfl (ri_range1 rfl T.b_range (ra_cons (kr_fld (K := K) (kr_fld (K := K) (rv 0))) ra_nil)) (rg_name (i := 2) sc_Game_view.nd rfl (by first | exact Or.inl rfl | exact Or.inr rfl)) (rss_cons (rs_comp (i := 3) sc_Game_view.nd rfl rfl (by rfl) rfl (ri_range1 rfl T.b_range (ra_cons (kr_fld (K := K) (kr_fld (K := K) (rv 0))) ra_nil)) (fun _ _ _ => rif_nil) (fun _ _ _ => (r_callTy call_strG rfl T.b_str bt_str (ra_cons (r_dget2 hu (kr_fld (K := K) (rv 1)) (r_tup (ra_cons (rv 3) (ra_cons (rv 0) ra_nil))) (r_gstr T.g_CLOSED_SIGN rfl) ⟨by rfl, by rfl, by rfl, by rfl⟩) ra_nil)))) (rss_one (rs_expr (kr_bm (K := K) PySem.F.plainAttrs_list PySem.F.slot_list_append PySem.F.type_list_append mt_append (rv 1) (ra_cons (kr_bm (K := K) PySem.F.plainAttrs_str PySem.F.slot_str_join PySem.F.type_str_join (k_join (K := K)) r_str (ra_cons (rv 3) ra_nil)) ra_nil)))))) (rss_one (rs_ret (r_make M_View hr rfl passE (ra_cons (rv 1) ra_nil)))))), ?_⟩
    refine seq_mid (fun σ H1 => ∃ p : Addr, H p = none ∧ Same H H1 ∧ H1 p = some (.lst []) ∧ σ = [some (.ref g), some (.ref p), none, none]) (fun R hR => ?_) ?_
    · exact ⟨by decide, fun p hp => hR _ _ ⟨p, hp, Same.put hp, upd_same, rfl⟩⟩
    rintro σ H1 ⟨p, np, s1, hp1, rfl⟩
    refine seq_mid (fun σ H2 => ∃ v2 v3 : Option V, Same H H2 ∧ H2 p = some (.lst ((shownL h w st kn).map V.str)) ∧ σ = [some (.ref g), some (.ref p), v2, v3]) (fun R hR => ?_) ?_
    · obtain ⟨dx, hg⟩ := (G.mono s1).ob
      obtain ⟨dy, ly, hf, hly⟩ := (G.mono s1).fl.ob
      rw [blank_len] at hf
      refine ⟨_, rfl, g, Z.Game, dx, _, _, rfl, hg, T.cl_Game, T.n_Game_field, g_field _ _ _ _, f, Z.View, dy, _, _, rfl, hf, T.cl_View, T.n_View_height, f_height _ _ _, _, rfl, by omega, by omega, ?_⟩
      rw [Int.toNat_natCast]
      refine for_range (lo := 0) (n := h) (fun i σ H2 => ∃ v2 v3 : Option V, Same H H2 ∧ H2 p = some (.lst (((List.range i).map fun r : Nat => rowN h w st kn (r : Int) w).map V.str)) ∧ σ = [some (.ref g), some (.ref p), v2, v3]) ⟨none, none, s1, hp1, rfl⟩ (fun i σ H2 hi hh => ?_) (fun σ H2 hh => ?_)
      · obtain ⟨v2, v3, g1, g2, rfl⟩ := hh
        have hi : i < h := hi
        refine seq_mid (fun σ H4 => ∃ q : Addr, Same H2 H4 ∧ H4 q = some (.lst (((List.range w).map fun c : Nat => (⟨#[sgnN h w st kn ((i : Int), (c : Int))]⟩ : Str)).map V.str)) ∧ σ = [some (.ref g), some (.ref p), some (.int (0 + i)), some (.ref q)]) (fun R' hR' => ?_) ?_
        · obtain ⟨dx, hg⟩ := (G.mono g1).ob
          obtain ⟨dy, ly, hf, hly⟩ := (G.mono g1).fl.ob
          rw [blank_len] at hf
          refine ⟨_, rfl, g, Z.Game, dx, _, _, rfl, hg, T.cl_Game, T.n_Game_field, g_field _ _ _ _, f, Z.View, dy, _, _, rfl, hf, T.cl_View, T.n_View_width, f_width _ _ _, _, rfl, by omega, by omega, ?_⟩
          rw [Int.toNat_natCast]
          refine comp_range (lo := 0) (n := w) (fun k ys H4 => Same H2 H4 ∧ ys = ((List.range k).map fun c : Nat => (⟨#[sgnN h w st kn ((i : Int), (c : Int))]⟩ : Str)).map V.str) (small (by omega)) (fun k ys H4 _ h => ?_) ⟨Same.refl _, rfl⟩ (fun k ys H4 hk h G' hG => ?_) (fun ys H4 h q hq' => ?_)
          · obtain ⟨_, rfl⟩ := h
            rw [List.length_map, List.length_map, List.length_range]; exact Nat.le_refl _
          · obtain ⟨t1, rfl⟩ := h
            have GG := G.mono (g1.trans t1)
            obtain ⟨dx, hg⟩ := GG.ob
            refine tyes ⟨_, rfl, g, Z.Game, dx, _, _, rfl, hg, T.cl_Game, T.n_Game_figures, g_figures _ _ _ _, d, rfl, .inr ⟨_, .inl GG.dc⟩, _, rfl, _, rfl, sz rfl, fun t ht => ?_⟩
            have st1 := Same.put (o := .tup [V.int (0 + (i : Int)), V.int (0 + (k : Int))]) ht
            have et : (upd H4 t (.tup [V.int (0 + (i : Int)), V.int (0 + (k : Int))])) t = some (.tup ((keyC ((i : Int), (k : Int))).map kV)) := by
              rw [upd_same, Int.zero_add, Int.zero_add]; rfl
            refine ⟨_, DGet.t (st1 _ _ GG.dc) et, ?_⟩
            rw [figs_val]
            have fin : ∀ H5, Same H4 H5 → G' (((List.range k).map fun c : Nat => (⟨#[sgnN h w st kn ((i : Int), (c : Int))]⟩ : Str)).map V.str ++ [.str ⟨#[sgnN h w st kn ((i : Int), (k : Int))]⟩]) H5 := fun H5 s5 => hG _ _ ⟨t1.trans s5, by rw [List.range_succ, List.map_append, List.map_append]; rfl⟩
            by_cases hm : ((i : Int), (k : Int)) ∈ kn
            · rw [if_pos hm]
              have f8 := figN_le h w st ((i : Int), (k : Int))
              have := fin _ st1
              have es : sgnN h w st kn ((i : Int), (k : Int)) = 48 + figN h w st ((i : Int), (k : Int)) := by unfold sgnN; rw [if_pos hm]
              rw [es, ← dig _ f8] at this
              exact .inl ⟨_, rfl, dig_log _ f8, this⟩
            · rw [if_neg hm]
              have := fin _ st1
              have es : sgnN h w st kn ((i : Int), (k : Int)) = 35 := by unfold sgnN; rw [if_neg hm]
              have eh : (⟨#[35]⟩ : Str) = "#" := by decide +kernel
              rw [es, eh] at this
              exact .inr ⟨_, rfl, this⟩
          · obtain ⟨t1, rfl⟩ := h
            exact hR' _ _ ⟨q, t1.and hq', upd_same, rfl⟩
        rintro σ H4 ⟨q, s4, hq4, rfl⟩
        have hp4 := s4 _ _ g2
        refine ⟨_, rfl, .inl ⟨rfl, _, SqL.of hp4⟩, rfl, _, rfl, ?_⟩
        refine ⟨"", q, _, rfl, rfl, SqL.of hq4, ?_, ?_⟩
        · have e0 : ("" : Str).length = 0 := by decide
          rw [e0]
          have : ∀ l : List Nat, ((l.map fun c : Nat => (⟨#[sgnN h w st kn ((i : Int), (c : Int))]⟩ : Str)).map (·.length)).sum = l.length := by
            intro l
            induction l with
            | nil => rfl
            | cons a l ih => rw [List.map_cons, List.map_cons, List.sum_cons, ih, List.length_cons]; show 1 + l.length = _; omega
          rw [this, List.length_map, List.length_range]; omega
        refine ⟨p, _, _, rfl, rfl, hp4, ltl (by rw [List.length_map, List.length_map, List.length_range]; omega), ?_⟩
        refine ⟨_, _, (SameBut.refl p _).put.of (g1.trans s4) np, ?_, rfl⟩
        rw [upd_same, join_row, List.range_succ, List.map_append, List.map_append]; rfl
      · obtain ⟨v2, v3, g1, g2, rfl⟩ := hh
        exact hR _ _ ⟨v2, v3, g1, g2, rfl⟩
    rintro σ H2 ⟨v2, v3, s2, hp2, rfl⟩
    have vw : Vw (shownL h w st kn) w := shown_vw h1 h6 w1 w6
    refine ⟨_, rfl, fun y dy ny ndy ney => ?_⟩
    have n2 : (upd H2 dy (.own y)) y = none := by rw [upd_ne ney.symm]; exact ny
    have s6 := (Same.put (o := .own y) ndy).and (o := .ins Z.View dy []) n2
    have ll : (shownL h w st kn).length = h := by unfold shownL; rw [List.length_map, List.length_range]
    refine ⟨y, dy, p, shownL h w st kn, rfl, upd_same, SqL.of (s6 _ _ hp2), by omega, fun r hr' => by have := vw.len r hr'; omega, fun hv => (by rw [vw.ok] at hv; cases hv), fun _ H' lr z0' zt' e nlr nlx hlr hx' keep => ⟨rfl, ?_⟩⟩
    have e0 : z0'.length = w := vw.len z0' (by rw [e]; exact List.mem_cons_self)
    have n1 : H y = none := s2.free ny
    refine hq y _ n1 (fun b o hb => keep b o (s6 _ _ (s2 _ _ hb)) (ne_of_none hb n1)) ⟨⟨dy, lr, ?_, hlr⟩, vw⟩
    rw [e0] at hx'; exact hx'
end
end My
set_option Elab.async false
set_option linter.all false
set_option maxRecDepth 100000
set_option maxHeartbeats 1000000
namespace My
open PySem L2
theorem game_grow {K : PySem.W.Frag} {C CV : Addr} {H H' : Hp} {g : Addr} {h w : Nat} {st kn kn' : List Cell} {lost : Bool} {f hd d : Addr} (G : GameAt K C CV H g h w st kn lost f hd d) (s : SameBut d H H') (e : H' d = some (.dT (figsL h w st kn'))) : GameAt K C CV H' g h w st kn' lost f hd d := by
  obtain ⟨dx, e0⟩ := G.ob
  obtain ⟨dy, ly, e1, e2⟩ := G.fl.ob
  obtain ⟨us, e3, D⟩ := G.hs
  have tp : Tups H H' := fun b xs eb => s _ _ eb (ne_of eb G.dc (by intro z; cases z))
  exact ⟨⟨dx, s _ _ e0 (ne_of e0 G.dc (by intro z; cases z))⟩, ⟨⟨dy, ly, s _ _ e1 (ne_of e1 G.dc (by intro z; cases z)), s _ _ e2 (ne_of e2 G.dc (by intro z; cases z))⟩, G.fl.vw⟩, ⟨us, s _ _ e3 (ne_of e3 G.dc (by intro z; cases z)), tp.cells D⟩, e⟩
theorem figs_snoc (h w : Int) (st kn : List Cell) (c : Cell) (nc : c ∉ kn) : putK (figsL h w st kn) (keyC c) (.int (figN h w st c)) = figsL h w st (kn ++ [c]) := by
  rw [putK_new _ (by rw [figs_val, if_neg nc])]
  unfold figsL
  rw [List.map_append]; rfl
structure UnInv (h w : Int) (st kn : List Cell) (c : Cell) (wt op : List Cell) : Prop where
  nd : op.Nodup
  new : ∀ y ∈ op, y ∉ kn
  rch : ∀ y ∈ op, Reach h w st kn c y
  wtr : ∀ y ∈ wt, inF h w y ∧ (y ∈ kn ∨ Reach h w st kn c y)
  has : c ∈ op ∨ c ∈ wt
  cl : ∀ x ∈ op, figN h w st x = 0 → ∀ y ∈ lnear h w x, y ∈ kn ∨ y ∈ op ∨ y ∈ wt
  ln : wt.length ≤ 1 + 8 * op.length
theorem UnInv.start {h w : Int} {st kn : List Cell} {c : Cell} (hc : inF h w c) : UnInv h w st kn c [c] [] :=
  ⟨by simp, fun y hy => (by cases hy), fun y hy => (by cases hy), fun y hy => (by rw [List.mem_singleton.mp hy]; exact ⟨hc, .inr .base⟩), .inr (List.mem_singleton.mpr rfl), fun x hx => (by cases hx), by simp⟩
theorem UnInv.skip {h w : Int} {st kn wt op : List Cell} {c m : Cell} (u : UnInv h w st kn c (wt ++ [m]) op) (hm : m ∈ kn ++ op) (nc : c ∉ kn) : UnInv h w st kn c wt op := by
  have old : ∀ y, y ∈ wt ++ [m] → y ∈ wt ∨ y = m := fun y hy => (List.mem_append.mp hy).imp id fun z => List.mem_singleton.mp z
  refine ⟨u.nd, u.new, u.rch, fun y hy => u.wtr y (List.mem_append_left _ hy), ?_, fun x hx e y hy => ?_, by have := u.ln; rw [List.length_append, List.length_singleton] at this; omega⟩
  · rcases u.has with z | z
    · exact .inl z
    · rcases old _ z with z | z
      · exact .inr z
      · subst z
        rcases List.mem_append.mp hm with q | q
        · exact absurd q nc
        · exact .inl q
  · rcases u.cl x hx e y hy with z | z | z
    · exact .inl z
    · exact .inr (.inl z)
    · rcases old _ z with z | z
      · exact .inr (.inr z)
      · subst z
        rcases List.mem_append.mp hm with q | q
        · exact .inl q
        · exact .inr (.inl q)
theorem UnInv.openB {h w : Int} {st kn wt op : List Cell} {c m : Cell} (u : UnInv h w st kn c (wt ++ [m]) op) (hm : m ∉ kn ++ op) (more : List Cell) (hz : figN h w st m = 0 → more = lnear h w m) (hn : figN h w st m ≠ 0 → more = []) : UnInv h w st kn c (wt ++ more) (op ++ [m]) := by
  have nk : m ∉ kn := fun z => hm (List.mem_append_left _ z)
  have no : m ∉ op := fun z => hm (List.mem_append_right _ z)
  have mr : inF h w m ∧ Reach h w st kn c m := by
    obtain ⟨a, b⟩ := u.wtr m (List.mem_append_right _ (List.mem_singleton.mpr rfl))
    exact ⟨a, b.resolve_left nk⟩
  have old : ∀ y, y ∈ wt ++ [m] → y ∈ wt ∨ y = m := fun y hy => (List.mem_append.mp hy).imp id fun z => List.mem_singleton.mp z
  have lm : more.length ≤ 8 := by
    by_cases e : figN h w st m = 0
    · rw [hz e]; exact lnear_len h w m
    · rw [hn e]; exact Nat.zero_le _
  refine ⟨?_, fun y hy => ?_, fun y hy => ?_, fun y hy => ?_, ?_, fun x hx e y hy => ?_, ?_⟩
  · exact List.nodup_append.mpr ⟨u.nd, by simp, fun a ha b hb e => no (by rw [← List.mem_singleton.mp hb, ← e]; exact ha)⟩
  · rcases List.mem_append.mp hy with z | z
    · exact u.new y z
    · rw [List.mem_singleton.mp z]; exact nk
  · rcases List.mem_append.mp hy with z | z
    · exact u.rch y z
    · rw [List.mem_singleton.mp z]; exact mr.2
  · rcases List.mem_append.mp hy with z | z
    · exact u.wtr y (List.mem_append_left _ z)
    · by_cases e : figN h w st m = 0
      · rw [hz e] at z
        refine ⟨lnear_in z, ?_⟩
        by_cases yk : y ∈ kn
        · exact .inl yk
        · exact .inr (.step mr.2 e z yk)
      · rw [hn e] at z; cases z
  · rcases u.has with z | z
    · exact .inl (List.mem_append_left _ z)
    · rcases old _ z with z | z
      · exact .inr (List.mem_append_left _ z)
      · exact .inl (List.mem_append_right _ (List.mem_singleton.mpr z))
  · rcases List.mem_append.mp hx with z | z
    · rcases u.cl x z e y hy with q | q | q
      · exact .inl q
      · exact .inr (.inl (List.mem_append_left _ q))
      · rcases old _ q with q | q
        · exact .inr (.inr (List.mem_append_left _ q))
        · exact .inr (.inl (List.mem_append_right _ (List.mem_singleton.mpr q)))
    · rw [List.mem_singleton.mp z] at e hy
      exact .inr (.inr (List.mem_append_right _ (by rw [hz e]; exact hy)))
  · have := u.ln
    rw [List.length_append, List.length_singleton] at this
    rw [List.length_append, List.length_append, List.length_singleton]; omega
theorem UnInv.done {h w : Int} {st kn op : List Cell} {c : Cell} (u : UnInv h w st kn c [] op) (y : Cell) : y ∈ op ↔ Reach h w st kn c y := by
  refine ⟨u.rch y, fun r => ?_⟩
  induction r with
  | base => exact u.has.resolve_right (by intro z; cases z)
  | step _ e hy hk ih =>
    rcases u.cl _ ih e _ hy with z | z | z
    · exact absurd z hk
    · exact z
    · cases z
theorem UnInv.len {h w : Nat} {st kn wt op : List Cell} {c : Cell} (u : UnInv h w st kn c wt op) (hc : inF h w c) (h6 : h ≤ 6) (w6 : w ≤ 6) : op.length ≤ 36 := by
  have := nodup_le (l2 := fieldL h w) u.nd fun y hy => mem_field.mpr ((u.rch y hy).inF hc)
  rw [field_len] at this
  have : h * w ≤ 6 * 6 := Nat.mul_le_mul h6 w6
  omega
theorem put_lost (f h d : Addr) (b : Bool) : putF "lost" (.bl true) (fGame f h d b) = fGame f h d true := by
  cases b <;> rfl
theorem game_lost {K : PySem.W.Frag} {C CV : Addr} {H H' : Hp} {g dx : Addr} {h w : Nat} {st kn : List Cell} {lost : Bool} {f hd d : Addr} (G : GameAt K C CV H g h w st kn lost f hd d) (s : SameBut g H H') (e : H' g = some (.ins C dx (fGame f hd d true))) : GameAt K C CV H' g h w st kn true f hd d := by
  obtain ⟨dx0, e0⟩ := G.ob
  obtain ⟨dy, ly, e1, e2⟩ := G.fl.ob
  obtain ⟨us, e3, D⟩ := G.hs
  have nf : f ≠ g := by
    intro z
    rw [z, e0] at e1
    injection e1 with e1
    injection e1 with _ _ e1
    have this : List.lookup ("rows" : Str) (fGame f hd d lost) = List.lookup ("rows" : Str) (fView ly (blankL h w).length w) := by rw [e1]
    rw [f_rows, g_none _ _ _ _ (by decide +kernel) (by decide +kernel) (by decide +kernel) (by decide +kernel)] at this
    cases this
  have tp : Tups H H' := fun b xs eb => s _ _ eb (ne_of eb e0 (by intro z; cases z))
  exact ⟨⟨dx, e⟩, ⟨⟨dy, ly, s _ _ e1 nf, s _ _ e2 (ne_of e2 e0 (by intro z; cases z))⟩, G.fl.vw⟩, ⟨us, s _ _ e3 (ne_of e3 e0 (by intro z; cases z)), tp.cells D⟩, s _ _ G.dc (ne_of G.dc e0 (by intro z; cases z))⟩
theorem dens_snoc {K : PySem.W.Frag} {H : Hp} {m : Cell} : ∀ {wt : List Cell} {xs : List V}, Dens K H xs ((wt ++ [m]).map cellD) → ∃ ys u, xs = ys ++ [u] ∧ Dens K H ys (wt.map cellD) ∧ Den K H u (cellD m)
  | [], xs, D => by
    cases D with
    | cons h t =>
      cases t
      exact ⟨[], _, rfl, .nil, h⟩
  | c :: wt, xs, D => by
    cases D with
    | cons h t =>
      obtain ⟨ys, u, rfl, a, b⟩ := dens_snoc (wt := wt) t
      exact ⟨_ :: ys, u, rfl, .cons h a, b⟩
theorem few4 {f h d : Addr} {b : Bool} : (fGame f h d b).length < 1000 := by
  unfold fGame
  have h1 := length_putF "lost" (.bl b) (putF "figures" (.ref d) (putF "hidden" (.ref h) (putF "field" (.ref f) [])))
  have h2 := few3 (a := "figures") (b := "hidden") (c := "field") (v := .ref d) (u := .ref h) (z := .ref f)
  have h3 := length_putF "figures" (.ref d) (putF "hidden" (.ref h) (putF "field" (.ref f) []))
  have h4 := length_putF "hidden" (.ref h) (putF "field" (.ref f) [])
  have h5 := length_putF "field" (.ref f) []
  simp only [List.length_nil] at h5
  omega
def spUncover (K : PySem.W.Frag) (C CV OV NC : Addr) : Sp := fun vs H Q E => ∃ (g : Addr) (v : V) (h w : Nat) (st kn : List Cell) (lost : Bool) (f hd d : Addr) (c : Cell), vs = [.ref g, v] ∧ GameAt K C CV H g h w st kn lost f hd d ∧ Den K H v (cellD c) ∧ kn.length ≤ 36 ∧
  (stateS h w st kn lost ≠ "on" → ∀ H', Same H H' → E (.ref OV) none H') ∧
  (stateS h w st kn lost = "on" → ¬ (inF h w c ∧ c ∉ kn) → ∀ H', Same H H' → E (.ref NC) none H') ∧
  (stateS h w st kn lost = "on" → inF h w c → c ∉ kn → c ∈ st → ∀ H', SameBut g H H' → GameAt K C CV H' g h w st kn true f hd d → Q .non H') ∧
  (stateS h w st kn lost = "on" → inF h w c → c ∉ kn → c ∉ st → ∀ (q : Addr) (H' : Hp) (op ds : List Cell), H q = none → SameBut d H H' → GameAt K C CV H' g h w st (kn ++ op) lost f hd d → Ls K H' q (ds.map cellD) → ds.Perm op → Asc ds → op.Nodup → (∀ y, y ∈ op ↔ Reach h w st kn c y) → Q (.ref q) H')
theorem spUncover.mk {K : PySem.W.Frag} {C CV OV NC : Addr} {H : Hp} {Q : VK} {E : XK} {g : Addr} {v : V} {h w : Nat} {st kn : List Cell} {lost : Bool} {f hd d : Addr} {c : Cell} (G : GameAt K C CV H g h w st kn lost f hd d) (dv : Den K H v (cellD c)) (kl : kn.length ≤ 36) (e1 : (stateS h w st kn lost ≠ "on" → ∀ H', Same H H' → E (.ref OV) none H')) (e2 : (stateS h w st kn lost = "on" → ¬ (inF h w c ∧ c ∉ kn) → ∀ H', Same H H' → E (.ref NC) none H')) (q1 : (stateS h w st kn lost = "on" → inF h w c → c ∉ kn → c ∈ st → ∀ H', SameBut g H H' → GameAt K C CV H' g h w st kn true f hd d → Q .non H')) (q2 : (stateS h w st kn lost = "on" → inF h w c → c ∉ kn → c ∉ st → ∀ (q : Addr) (H' : Hp) (op ds : List Cell), H q = none → SameBut d H H' → GameAt K C CV H' g h w st (kn ++ op) lost f hd d → Ls K H' q (ds.map cellD) → ds.Perm op → Asc ds → op.Nodup → (∀ y, y ∈ op ↔ Reach h w st kn c y) → Q (.ref q) H')) : spUncover K C CV OV NC [.ref g, v] H Q E := ⟨g, v, h, w, st, kn, lost, f, hd, d, c, rfl, G, dv, kl, e1, e2, q1, q2⟩
theorem spHas.mk {K : PySem.W.Frag} {C x : Addr} {H : Hp} {Q : VK} {E : XK} {v : V} {zs : List Str} {w : Nat} {c : Cell} (vt : ViewAt C H x zs w) (dv : Den K H v (cellD c)) (q : Q (.bl (decide (inF zs.length w c))) H) : spHas K C [.ref x, v] H Q E := ⟨x, v, zs, w, c, rfl, vt, dv, q⟩
theorem spStones.mk {K : PySem.W.Frag} {C x l : Addr} {H : Hp} {Q : VK} {E : XK} {v : V} {zs : List Str} {w : Nat} {c : Cell} {cs : List Cell} (vt : ViewAt C H x zs w) (dv : Den K H v (cellD c)) (hin : inF zs.length w c) (hl : Ls K H l (cs.map cellD)) (q : ∀ H', Same H H' → Q (.int (stonesN zs.length w c cs)) H') : spStones K C [.ref x, v, .ref l] H Q E := ⟨x, l, v, zs, w, c, cs, rfl, vt, dv, hin, hl, q⟩
theorem spPNear.mk {K : PySem.W.Frag} {C NC x : Addr} {H : Hp} {Q : VK} {E : XK} {v : V} {zs : List Str} {w : Nat} {c : Cell} (vt : ViewAt C H x zs w) (dv : Den K H v (cellD c)) (hin : inF zs.length w c) (q : ∀ q H', Fr K H H' q ((lnear zs.length w c).map cellD) → Q (.ref q) H') : spPNear K C NC [.ref x, v] H Q E := ⟨x, v, zs, w, c, rfl, vt, dv, fun _ => q, fun z => absurd hin z⟩
section
variable {P : Program} {w : World} {K : PySem.W.Frag} {mg : Str → Option Value} {base : Heap} {Z : Adr}
theorem ok_uncover {f : Addr} {fd : FuncData} (F : Fun K "uncover" "Game.uncover" s_Game_uncover f fd) (T : Txt K mg Z) (N_Game_state : Mth P w K mg base 1 Z.Game "state" ["self"] (spGState K Z.Game Z.View)) (D_has_cell : Df P w K mg base 1 "has_cell" ["view", "cell"] (spHas K Z.View))
    (D_stones_near : Df P w K mg base 3 "stones_near" ["view", "cell", "laying"] (spStones K Z.View)) (D_near : Df P w K mg base 2 "near" ["view", "cell"] (spPNear K Z.View Z.NoCell)) : FnOk P w K mg base (CXE P w) 4 f fd ["self", "cell"] (spUncover K Z.Game Z.View Z.Over Z.NoCell) := by
  refine F.rokE sc_Game_uncover (fun vs H Q E h => ?_) (fun cdv A outer s H vs Q E hr h => ?_)
  · obtain ⟨g, v, h, w, st, kn, lost, f, hd, d, c, rfl, _⟩ := h; rfl
  · obtain ⟨g, v, h, w, st, kn, lost, fl, hh, d, c, rfl, G, dv, kl, e1, e2, q1, q2⟩ := h
    have hd := hd_of hr
    have hu := hu60 hr
    have hu' := hu61 hr
    have w6 := G.fl.vw.w6
    have h6 := G.fl.vw.le
    rw [blank_len] at h6
    obtain ⟨dx, hg⟩ := G.ob
    obtain ⟨tv, rfl, _, htv⟩ := cell_ref dv
    refine ⟨_, (rss_cons (rs_if (RT.nox (rt_cmp (op_ne.or (k_neD (K := K) hu)) (r_meth0 N_Game_state hr passE (rv 0)) r_str (nomark _))) (rss_one (rs_raise T.x_Over rfl T.c_Over hd (ra_cons r_str ra_nil))) rss_nil) (rss_cons (rs_if (RT.nox (rt_b (rb_or (rt_not (rt_val (r_def D_has_cell hr rfl passE (ra_cons (kr_fld (K := K) (rv 0)) (ra_cons (rv 1) ra_nil))))) (rb_or1 (rt_cmp (op_inDict hu) (rv 1) (kr_fld (K := K) (rv 0)) (by rfl)))))) (rss_one (rs_raise T.x_NoCell rfl T.c_NoCell hd (ra_cons r_str ra_nil))) rss_nil) (rss_cons (RS.nox (rs_if (rt_cmp (op_in_str.or (k_inD (K := K) hu')) (rv 1) (kr_fld (K := K) (rv 0)) (by rfl)) (rss_cons (rs_fld (rv 0) r_bl) (rss_one (rs_ret r_non))) rss_nil)) (rss_cons (RS.nox (rs_set (i := 2) sc_Game_uncover.nd rfl (by first | exact Or.inl rfl | exact Or.inr rfl) (r_lst ra_nil))) (rss_cons (RS.nox (rs_set (i := 3) sc_Game_uncover.nd rfl (by first | exact Or.inl rfl | exact Or.inr rfl) (r_lst (ra_cons (rv 1) ra_nil)))) (rss_cons (RS.nox (rs_while PassesOwn.never (rt_cmp op_gt (r_callB (k_len (K := K)) rfl T.b_len bt_len (ra_cons (rv 3) ra_nil)) r_int (nomark _)) (rss_cons (rs_set (i := 4) sc_Game_uncover.nd rfl (by first | exact Or.inl rfl | exact Or.inr rfl) (kr_bm0 (K := K) PySem.F.plainAttrs_list PySem.F.slot_list_pop PySem.F.type_list_pop mt_pop (rv 3))) (rss_one (rs_if (rt_cmp (op_notInDict hu) (rv 4) (kr_fld (K := K) (rv 0)) (by rfl)) (rss_cons (rs_asg (r_def D_stones_near hr rfl passE (ra_cons (kr_fld (K := K) (rv 0)) (ra_cons (rv 4) (ra_cons (kr_fld (K := K) (rv 0)) ra_nil)))) (rg_sub (kr_fld (K := K) (rv 0)) (rv 4) (set_dict hu))) (rss_cons (rs_expr (kr_bm (K := K) PySem.F.plainAttrs_list PySem.F.slot_list_append PySem.F.type_list_append mt_append (rv 2) (ra_cons (rv 4) ra_nil))) (rss_one (rs_if (rt_cmp (op_eq.or (k_eqD (K := K) hu)) (r_ix (ix_dict hu) (kr_fld (K := K) (rv 0)) (rv 4)) r_int (nomark _)) (rss_one (rs_expr (kr_bm (K := K) PySem.F.plainAttrs_list PySem.F.slot_list_extend PySem.F.type_list_extend mt_extend (rv 3) (ra_cons (r_def D_near hr rfl passE (ra_cons (kr_fld (K := K) (rv 0)) (ra_cons (rv 4) ra_nil))) ra_nil)))) rss_nil)))) rss_nil))))) (rss_one (RS.nox (rs_ret (r_callB (k_sortC (K := K) hu) rfl T.b_sorted bt_sorted (ra_cons (rv 2) ra_nil))))))))))), ?_⟩
    refine seq_mid (fun σ H1 => H1 = H ∧ stateS h w st kn lost = "on" ∧ σ = [some (.ref g), some (.ref tv), none, none, none]) (fun R hR => ?_) ?_
    · refine rd_meth0 G (by decide +kernel) (fun _ q => ⟨_, rfl, q⟩) (spGState.mk G (.inl ⟨rfl, _, rfl, ?_⟩))
      have es : decide (V.str (stateS h w st kn lost) = V.str "on") = decide (stateS h w st kn lost = "on") := by rw [decide_eq_decide]; exact ⟨fun z => by injection z, fun z => by rw [z]⟩
      rw [es]
      refine ite_b (fun hb => ⟨by decide, e1 (of_decide_eq_false (by simpa only [Bool.not_eq_true'] using hb)) _ (Same.refl _)⟩) (fun hb => hR _ _ ⟨rfl, of_decide_eq_true (by simpa only [Bool.not_eq_false'] using hb), rfl⟩)
    rintro σ H ⟨rfl, son, rfl⟩
    have lost0 : lost = false := by
      cases lost with
      | false => rfl
      | true => exact absurd son (by unfold stateS; rw [if_pos rfl]; decide +kernel)
    have key : H tv = some (.tup ((keyC c).map kV)) := htv
    refine seq_mid (fun σ H1 => H1 = H ∧ inF h w c ∧ c ∉ kn ∧ σ = [some (.ref g), some (.ref tv), none, none, none]) (fun R hR => ?_) ?_
    · refine rd_gfld G (fun _ q => ⟨_, rfl, q⟩) T.cl_Game T.n_Game_field (g_field _ _ _ _) ⟨_, rfl, ?_⟩
      dsimp only [tNil]
      refine spHas.mk G.fl dv ⟨_, rfl, ?_⟩
      rw [blank_len]
      refine ite_b (fun hb => ⟨by decide, e2 son (fun z => of_decide_eq_false (by simpa only [Bool.not_eq_true'] using hb) z.1) _ (Same.refl _)⟩) (fun hb => ?_)
      have hin : inF h w c := of_decide_eq_true (by simpa only [Bool.not_eq_false'] using hb)
      refine ⟨_, rfl, rd_gfld G (fun _ q => ⟨_, rfl, q⟩) T.cl_Game T.n_Game_figures (g_figures _ _ _ _) ⟨d, _, rfl, DGet.t G.dc key, _, rfl, ?_⟩⟩
      rw [figs_val]
      by_cases hk : c ∈ kn
      · rw [if_pos hk]
        exact iteT ⟨by decide, e2 son (fun z => z.2 hk) _ (Same.refl _)⟩
      · rw [if_neg hk]
        exact iteF (hR _ _ ⟨rfl, hin, hk, rfl⟩)
    rintro σ H ⟨rfl, hin, nk, rfl⟩
    refine seq_mid (fun σ H1 => H1 = H ∧ c ∉ st ∧ σ = [some (.ref g), some (.ref tv), none, none, none]) (fun R hR => ?_) ?_
    · refine ⟨_, rfl, rd_gfld G (fun _ q => ⟨_, rfl, q⟩) T.cl_Game T.n_Game_hidden (g_hidden _ _ _ _) (.inr (rd_in dv G.hs.den ⟨_, rfl, ?_⟩))⟩
      refine ite_b (fun hb => ?_) (fun hb => hR _ _ ⟨rfl, of_decide_eq_false hb, rfl⟩)
      refine ⟨_, rfl, g, Z.Game, dx, _, rfl, hg, T.cl_Game, T.n_Game_lost, few4, ?_⟩
      rw [put_lost]
      have sb : SameBut g H (upd H g (.ins Z.Game dx (fGame fl hh d true))) := (SameBut.refl g _).put
      refine q1 son hin nk (of_decide_eq_true hb) _ sb (game_lost G sb upd_same)
    rintro σ H ⟨rfl, ns, rfl⟩
    refine seq_mid (fun σ H1 => ∃ ol : Addr, H ol = none ∧ Same H H1 ∧ H1 ol = some (.lst []) ∧ σ = [some (.ref g), some (.ref tv), some (.ref ol), none, none]) (fun R hR => ?_) ?_
    · exact ⟨by decide, fun ol nol => hR _ _ ⟨ol, nol, Same.put nol, upd_same, rfl⟩⟩
    rintro σ H1 ⟨ol, nol, s1, eol, rfl⟩
    refine seq_mid (fun σ H2 => ∃ wl : Addr, H wl = none ∧ ol ≠ wl ∧ Same H1 H2 ∧ H2 wl = some (.lst [.ref tv]) ∧ σ = [some (.ref g), some (.ref tv), some (.ref ol), some (.ref wl), none]) (fun R hR => ?_) ?_
    · exact ⟨_, rfl, sz rfl, fun wl nwl => hR _ _ ⟨wl, s1.free nwl, ne_of_none eol nwl, Same.put nwl, upd_same, rfl⟩⟩
    rintro σ H2 ⟨wl, nwl, now, s2, ewl, rfl⟩
    have sd := (s1.trans s2).but d
    have nod : ∀ a, H a = none → a ≠ d := fun a z => (ne_of_none G.dc z).symm
    refine seq_mid (fun σ H3 => ∃ (op : List Cell) (v4 : Option V), SameBut d H H3 ∧ GameAt K Z.Game Z.View H3 g h w st (kn ++ op) lost fl hh d ∧ Ls K H3 ol (op.map cellD) ∧ UnInv h w st kn c [] op ∧ σ = [some (.ref g), some (.ref tv), some (.ref ol), some (.ref wl), v4]) (fun R hR => ?_) ?_
    · refine ⟨fun m σ H' => ∃ (wt op : List Cell) (v4 : Option V), SameBut d H H' ∧ GameAt K Z.Game Z.View H' g h w st (kn ++ op) lost fl hh d ∧ Ls K H' ol (op.map cellD) ∧ Ls K H' wl (wt.map cellD) ∧ UnInv h w st kn c wt op ∧ m = (36 - op.length) * 9 + wt.length ∧ σ = [some (.ref g), some (.ref tv), some (.ref ol), some (.ref wl), v4],
        ⟨_, [c], [], none, sd, by rw [List.append_nil]; exact G.mono (s1.trans s2), ⟨[], s2 _ _ eol, .nil⟩, ⟨_, ewl, .cons (dv.mono (s1.trans s2)) .nil⟩, .start hin, rfl, rfl⟩, ?_⟩
      rintro m σ H' ⟨wt, op, v4, sb, GG, lo, lw, ui, rfl, rfl⟩
      obtain ⟨xs, ex, D⟩ := id lw
      have lx : xs.length = wt.length := by rw [D.length, List.length_map]
      have o36 := ui.len hin h6 w6
      have wln := ui.ln
      refine ⟨_, rfl, .inl ⟨wl, _, rfl, .inl (SqL.of ex), _, _, rfl, rfl, _, rfl, ?_⟩⟩
      refine ite_b (fun hlt => ?_) (fun hlt => ?_)
      · have hlt : (0 : Int) < (xs.length : Int) := of_decide_eq_true hlt
        obtain ⟨wt, m, rfl⟩ : ∃ wt' m, wt = wt' ++ [m] := by
          rcases List.eq_nil_or_concat wt with z | ⟨l, b, z⟩
          · rw [z, List.length_nil] at lx; omega
          · exact ⟨l, b, by rw [z]; simp⟩
        obtain ⟨xs, u, rfl, Dx, du⟩ := dens_snoc D
        obtain ⟨tm, rfl, _, htm⟩ := cell_ref du
        have minF := (ui.wtr m (List.mem_append_right _ (List.mem_singleton.mpr rfl))).1
        refine ⟨fun σ' H4 => ∃ (wt' op' : List Cell) (v4 : Option V), SameBut d H H4 ∧ GameAt K Z.Game Z.View H4 g h w st (kn ++ op') lost fl hh d ∧ Ls K H4 ol (op'.map cellD) ∧ Ls K H4 wl (wt'.map cellD) ∧ UnInv h w st kn c wt' op' ∧ (36 - op'.length) * 9 + wt'.length < (36 - op.length) * 9 + (wt ++ [m]).length ∧ σ' = [some (.ref g), some (.ref tv), some (.ref ol), some (.ref wl), v4], fun σ' H4 hx => ?_, ?_⟩
        · obtain ⟨wt', op', v4, a1, a2, a3, a4, a5, a6, rfl⟩ := hx
          exact ⟨_, a6, wt', op', v4, a1, a2, a3, a4, a5, rfl, rfl⟩
        have nwol : wl ≠ ol := now.symm
        have nwh : wl ≠ hh := by
          obtain ⟨us, e, _⟩ := G.hs
          exact (ne_of_none e nwl).symm
        have noh : ol ≠ hh := by
          obtain ⟨us, e, _⟩ := G.hs
          exact (ne_of_none e nol).symm
        refine seq_mid (fun σ H4 => SameBut d H H4 ∧ GameAt K Z.Game Z.View H4 g h w st (kn ++ op) lost fl hh d ∧ Ls K H4 ol (op.map cellD) ∧ Ls K H4 wl (wt.map cellD) ∧ H4 tm = some (.tup [.int m.1, .int m.2]) ∧ σ = [some (.ref g), some (.ref tv), some (.ref ol), some (.ref wl), some (.ref tm)]) (fun R' hR' => ?_) ?_
        · refine ⟨_, rfl, .inl ⟨rfl, _, SqL.of ex⟩, wl, _, V.ref tm, rfl, rfl, ex, (by simp), ?_⟩
          rw [List.dropLast_concat]
          have sw : SameBut wl H' (upd H' wl (.lst xs)) := (SameBut.refl wl _).put
          refine hR' _ _ ⟨fun b o e nb => sw b o (sb b o e nb) (ne_of_none e nwl), game_but GG sw ex D nwh, sw.ls ex now lo, ⟨xs, upd_same, sw.cells ex Dx⟩, sw _ _ htm (ne_of htm ex (by intro z; cases z)), rfl⟩
        rintro σ H4 ⟨b4, G4, lo4, lw4, ht4, rfl⟩
        have k4 : H4 tm = some (.tup ((keyC m).map kV)) := ht4
        obtain ⟨dx4, hg4⟩ := G4.ob
        refine ⟨_, rfl, rd_gfld G4 (fun _ q => ⟨_, rfl, q⟩) T.cl_Game T.n_Game_figures (g_figures _ _ _ _) ⟨d, _, rfl, DGet.t G4.dc k4, _, rfl, ?_⟩⟩
        rw [figs_val]
        by_cases hk : m ∈ kn ++ op
        · rw [if_pos hk]
          exact iteF ⟨wt, op, _, b4, G4, lo4, lw4, ui.skip hk nk, by rw [List.length_append, List.length_singleton]; omega, rfl⟩
        rw [if_neg hk]
        refine iteT ?_
        have kl' : (kn ++ op).length ≤ 100 := by rw [List.length_append]; omega
        refine seq_mid (fun σ H5 => SameBut d H H5 ∧ GameAt K Z.Game Z.View H5 g h w st (kn ++ (op ++ [m])) lost fl hh d ∧ Ls K H5 ol (op.map cellD) ∧ Ls K H5 wl (wt.map cellD) ∧ H5 tm = some (.tup [.int m.1, .int m.2]) ∧ σ = [some (.ref g), some (.ref tv), some (.ref ol), some (.ref wl), some (.ref tm)]) (fun R' hR' => ?_) ?_
        · refine rd_gfld G4 (fun _ q => ⟨_, rfl, q⟩) T.cl_Game T.n_Game_field (g_field _ _ _ _) ⟨_, rfl, rd_gfld G4 (fun _ q => ⟨_, rfl, q⟩) T.cl_Game T.n_Game_hidden (g_hidden _ _ _ _) ?_⟩
          dsimp only [tNil]
          have dm4 : Den K H4 (.ref tm) (cellD m) := .tup ht4 (.cons (.int _) (.cons (.int _) .nil))
          refine spStones.mk G4.fl dm4 (by rw [blank_len]; exact minF) G4.hs fun H5 s5 => ?_
          rw [blank_len]
          have G5 := G4.mono s5
          refine rd_gfld G5 (fun _ q => ⟨_, rfl, q⟩) T.cl_Game T.n_Game_figures (g_figures _ _ _ _) ⟨_, rfl, d, _, rfl, DPut.t G5.dc (s5 _ _ k4) (ltl (by unfold figsL; rw [List.length_map]; omega)), ?_⟩
          have ef : putK (figsL h w st (kn ++ op)) (keyC m) (.int (stonesN h w m st)) = figsL h w st (kn ++ (op ++ [m])) := by
            rw [← List.append_assoc]
            exact figs_snoc h w st (kn ++ op) m hk
          rw [ef]
          have sdd : SameBut d H5 (upd H5 d (.dT (figsL h w st (kn ++ (op ++ [m]))))) := (SameBut.refl d _).put
          have tp : Tups H5 (upd H5 d (.dT (figsL h w st (kn ++ (op ++ [m]))))) := .put G5.dc (by intro xs z; cases z)
          have lsd : ∀ (a : Addr) (cs : List Cell), a ≠ d → Ls K H5 a (cs.map cellD) → Ls K (upd H5 d (.dT (figsL h w st (kn ++ (op ++ [m]))))) a (cs.map cellD) := fun a cs na ⟨zs, ez, Dz⟩ => ⟨zs, by rw [upd_ne na]; exact ez, tp.cells Dz⟩
          exact hR' _ _ ⟨(b4.trans (s5.but d)).trans sdd, game_grow G5 sdd upd_same, lsd ol op (nod _ nol) (lo4.mono s5), lsd wl wt (nod _ nwl) (lw4.mono s5), tp _ _ (s5 _ _ ht4), rfl⟩
        rintro σ H5 ⟨b5, G5, lo5, lw5, ht5, rfl⟩
        have dm5 : Den K H5 (.ref tm) (cellD m) := .tup ht5 (.cons (.int _) (.cons (.int _) .nil))
        refine seq_mid (fun σ H6 => SameBut d H H6 ∧ GameAt K Z.Game Z.View H6 g h w st (kn ++ (op ++ [m])) lost fl hh d ∧ Ls K H6 ol ((op ++ [m]).map cellD) ∧ Ls K H6 wl (wt.map cellD) ∧ H6 tm = some (.tup [.int m.1, .int m.2]) ∧ σ = [some (.ref g), some (.ref tv), some (.ref ol), some (.ref wl), some (.ref tm)]) (fun R' hR' => ?_) ?_
        · obtain ⟨os, eo, Do⟩ := id lo5
          have lo' : os.length = op.length := by rw [Do.length, List.length_map]
          refine ⟨_, rfl, .inl ⟨rfl, _, SqL.of eo⟩, _, rfl, ol, os, _, rfl, rfl, eo, ltl (by omega), ?_⟩
          have sw : SameBut ol H5 (upd H5 ol (.lst (os ++ [V.ref tm]))) := (SameBut.refl ol _).put
          refine hR' _ _ ⟨fun b o e nb => sw b o (b5 b o e nb) (ne_of_none e nol), game_but G5 sw eo Do noh, ⟨_, upd_same, ?_⟩, sw.ls eo nwol lw5, sw _ _ ht5 (ne_of ht5 eo (by intro z; cases z)), rfl⟩
          rw [List.map_append]
          exact (sw.cells eo Do).append (.cons (sw.cell eo dm5) .nil)
        rintro σ H6 ⟨b6, G6, lo6, lw6, ht6, rfl⟩
        have k6 : H6 tm = some (.tup ((keyC m).map kV)) := ht6
        have dm6 : Den K H6 (.ref tm) (cellD m) := .tup ht6 (.cons (.int _) (.cons (.int _) .nil))
        obtain ⟨dx6, hg6⟩ := G6.ob
        have mem : m ∈ kn ++ (op ++ [m]) := List.mem_append_right _ (List.mem_append_right _ (List.mem_singleton.mpr rfl))
        refine rd_gfld G6 (fun _ q => ⟨_, rfl, q⟩) T.cl_Game T.n_Game_figures (g_figures _ _ _ _) ⟨_, rfl, d, .int (figN h w st m), rfl, ?_, .inl ⟨rfl, _, rfl, ?_⟩⟩
        · have := DGet.t G6.dc k6
          rw [figs_val, if_pos mem] at this; exact this
        rw [dec_v]
        refine ite_b (fun hz => ?_) (fun hz => ?_)
        · have fz : figN h w st m = 0 := by have := of_decide_eq_true hz; omega
          obtain ⟨ws, ew, Dw⟩ := id lw6
          refine ⟨_, rfl, .inl ⟨rfl, _, SqL.of ew⟩, rd_gfld G6 (fun _ q => ⟨_, rfl, q⟩) T.cl_Game T.n_Game_field (g_field _ _ _ _) ⟨_, rfl, ?_⟩⟩
          dsimp only [tNil]
          refine spPNear.mk G6.fl dm6 (by rw [blank_len]; exact minF) fun q H7 fr => ?_
          rw [blank_len] at fr
          obtain ⟨ns, en, Dn⟩ := fr.ls
          have s7 := fr.same
          have ew7 := s7 _ _ ew
          have ll : ws.length + ns.length ≤ 1000 := by
            rw [Dw.length, Dn.length, List.length_map, List.length_map]
            have := lnear_len h w m
            rw [List.length_append] at wln
            omega
          refine ⟨wl, q, ws, ns, rfl, rfl, ew7, en, small (by omega), ?_⟩
          have sw : SameBut wl H7 (upd H7 wl (.lst (ws ++ ns))) := (SameBut.refl wl _).put
          refine ⟨wt ++ lnear h w m, op ++ [m], _, fun b o e nb => sw b o (s7 _ _ (b6 b o e nb)) (ne_of_none e nwl), game_but (G6.mono s7) sw ew7 (Dw.mono s7) nwh, sw.ls ew7 now (lo6.mono s7), ⟨_, upd_same, ?_⟩, ui.openB hk _ (fun _ => rfl) (fun z => absurd fz z), ?_, rfl⟩
          · rw [List.map_append]
            exact (sw.cells ew7 (Dw.mono s7)).append (sw.cells ew7 Dn)
          · have := lnear_len h w m
            have o36' := (ui.openB hk _ (fun _ => rfl) (fun z => absurd fz z)).len hin h6 w6
            simp only [List.length_append, List.length_singleton] at o36' ⊢
            omega
        · have fz : figN h w st m ≠ 0 := fun e => by rw [e] at hz; cases hz
          have ui' := ui.openB hk [] (fun z => absurd z fz) (fun _ => rfl)
          have o36' := ui'.len hin h6 w6
          rw [List.append_nil] at ui'
          refine ⟨wt, op ++ [m], _, b6, G6, lo6, lw6, ui', ?_, rfl⟩
          simp only [List.length_append, List.length_singleton] at o36' ⊢
          omega
      · have hlt : ¬ (0 : Int) < (xs.length : Int) := of_decide_eq_false hlt
        have : wt = [] := List.length_eq_zero_iff.mp (by omega)
        subst this
        exact hR _ _ ⟨op, v4, sb, GG, lo, ui, rfl⟩
    rintro σ H3 ⟨op, v4, b3, G3, lo, ui, rfl⟩
    obtain ⟨us, eu, Du⟩ := lo
    have o36 := ui.len hin h6 w6
    refine ⟨_, rfl, ol, us, op, rfl, SqL.of eu, Du, by omega, fun q ws ds hn pm D' pc as => ?_⟩
    have nq : H q = none := by
      cases e : H q with
      | none => rfl
      | some o =>
        by_cases z : q = d
        · rw [z] at hn; rw [G3.dc] at hn; cases hn
        · rw [b3 _ _ e z] at hn; cases hn
    exact q2 son hin nk ns q _ op ds nq (b3.and hn) (G3.mono (Same.put hn)) (.new hn D') pc as ui.nd ui.done
end
end My
set_option Elab.async false
set_option linter.all false
set_option maxRecDepth 100000
set_option maxHeartbeats 1000000
namespace My
open PySem L2
theorem asc_eq {a b : List Cell} (h1 : a.Pairwise cellLt) (h2 : b.Pairwise cellLt) (hm : ∀ y, y ∈ a ↔ y ∈ b) : a = b := by
  have pm : a.Perm b := (List.perm_ext_iff_of_nodup (strict_nodup h1) (strict_nodup h2)).mpr hm
  refine List.Perm.eq_of_pairwise (le := cellLt) (fun x y _ _ h1 h2 => ?_) h1 h2 pm
  unfold cellLt at h1 h2; omega
theorem reach_congr {h w : Int} {st kn kn' : List Cell} (hm : ∀ y, y ∈ kn ↔ y ∈ kn') {c y : Cell} (r : Reach h w st kn c y) : Reach h w st kn' c y := by
  induction r with
  | base => exact .base
  | step _ e hy hk ih => exact .step ih e hy (fun z => hk ((hm _).mpr z))
theorem shown_congr {h w : Nat} {st kn kn' : List Cell} (hm : ∀ y, y ∈ kn ↔ y ∈ kn') : shownL h w st kn = shownL h w st kn' := by
  unfold shownL
  refine List.map_congr_left fun r _ => ?_
  unfold rowN
  have : ((List.range w).map fun c : Nat => sgnN h w st kn ((r : Int), (c : Int))) = (List.range w).map fun c : Nat => sgnN h w st kn' ((r : Int), (c : Int)) := List.map_congr_left fun c _ => by
    unfold sgnN
    by_cases z : ((r : Int), (c : Int)) ∈ kn
    · rw [if_pos z, if_pos ((hm _).mp z)]
    · rw [if_neg z, if_neg (fun q => z ((hm _).mpr q))]
  rw [this]
def spLState (K : PySem.W.Frag) : Sp := fun vs H Q _ => ∃ (h w : Nat) (p q : Addr) (st kn : List Cell) (lost : Bool), vs = [.int h, .int w, .ref p, .ref q, .bl lost] ∧ h ≤ 6 ∧ w ≤ 6 ∧ Ls K H p (st.map cellD) ∧ Ls K H q (kn.map cellD) ∧ ∀ H', Same H H' → Q (.str (stateS h w st kn lost)) H'
theorem spLState.mk {K : PySem.W.Frag} {H : Hp} {Q : VK} {E : XK} {h w : Nat} {p q : Addr} {st kn : List Cell} {lost : Bool} (h6 : h ≤ 6) (w6 : w ≤ 6) (lp : Ls K H p (st.map cellD)) (lq : Ls K H q (kn.map cellD)) (hq : ∀ H', Same H H' → Q (.str (stateS h w st kn lost)) H') : spLState K [.int h, .int w, .ref p, .ref q, .bl lost] H Q E := ⟨h, w, p, q, st, kn, lost, rfl, h6, w6, lp, lq, hq⟩
def spDue (K : PySem.W.Frag) : Sp := fun vs H Q _ => ∃ (h w : Nat) (p q : Addr) (ss : Str) (v : V) (st kn : List Cell) (c : Cell), vs = [.int h, .int w, .ref p, .ref q, .str ss, v] ∧ h ≤ 6 ∧ w ≤ 6 ∧ Ls K H p (st.map cellD) ∧ Ls K H q (kn.map cellD) ∧ Den K H v (cellD c) ∧
  (ss ≠ "on" → ∀ t H', Same H H' → H' t = some (.lst [.int 1, .bl true]) → Q (.ref t) H') ∧
  (ss = "on" → ¬ (inF h w c ∧ c ∉ kn) → ∀ t H', Same H H' → H' t = some (.lst [.int 2, .bl true]) → Q (.ref t) H') ∧
  (ss = "on" → inF h w c → c ∉ kn → c ∈ st → ∀ H', Same H H' → Q .non H') ∧
  (ss = "on" → inF h w c → c ∉ kn → c ∉ st → ∀ (t : Addr) (H' : Hp) (ds : List Cell), Same H H' → Ls K H' t (ds.map cellD) → ds.Pairwise cellLt → ds.length ≤ 36 → (∀ y, y ∈ ds ↔ Reach h w st kn c y) → Q (.ref t) H')
theorem spDue.mk {K : PySem.W.Frag} {H : Hp} {Q : VK} {E : XK} {h w : Nat} {p q : Addr} {ss : Str} {v : V} {st kn : List Cell} {c : Cell} (h6 : h ≤ 6) (w6 : w ≤ 6) (lp : Ls K H p (st.map cellD)) (lq : Ls K H q (kn.map cellD)) (dv : Den K H v (cellD c)) (q1 : (ss ≠ "on" → ∀ t H', Same H H' → H' t = some (.lst [.int 1, .bl true]) → Q (.ref t) H')) (q2 : (ss = "on" → ¬ (inF h w c ∧ c ∉ kn) → ∀ t H', Same H H' → H' t = some (.lst [.int 2, .bl true]) → Q (.ref t) H')) (q3 : (ss = "on" → inF h w c → c ∉ kn → c ∈ st → ∀ H', Same H H' → Q .non H')) (q4 : (ss = "on" → inF h w c → c ∉ kn → c ∉ st → ∀ (t : Addr) (H' : Hp) (ds : List Cell), Same H H' → Ls K H' t (ds.map cellD) → ds.Pairwise cellLt → ds.length ≤ 36 → (∀ y, y ∈ ds ↔ Reach h w st kn c y) → Q (.ref t) H')) : spDue K [.int h, .int w, .ref p, .ref q, .str ss, v] H Q E := ⟨h, w, p, q, ss, v, st, kn, c, rfl, h6, w6, lp, lq, dv, q1, q2, q3, q4⟩
def spMetU (K : PySem.W.Frag) (C CV : Addr) : Sp := fun vs H Q _ => ∃ (g : Addr) (v : V) (h w : Nat) (st kn : List Cell) (lost : Bool) (f hd d : Addr) (c : Cell), vs = [.ref g, v] ∧ GameAt K C CV H g h w st kn lost f hd d ∧ Den K H v (cellD c) ∧ kn.length ≤ 36 ∧
  (stateS h w st kn lost ≠ "on" → ∀ t H', Same H H' → H' t = some (.lst [.int 1, .bl true]) → Q (.ref t) H') ∧
  (stateS h w st kn lost = "on" → ¬ (inF h w c ∧ c ∉ kn) → ∀ t H', Same H H' → H' t = some (.lst [.int 2, .bl true]) → Q (.ref t) H') ∧
  (stateS h w st kn lost = "on" → inF h w c → c ∉ kn → c ∈ st → ∀ H', SameBut g H H' → GameAt K C CV H' g h w st kn true f hd d → Q .non H') ∧
  (stateS h w st kn lost = "on" → inF h w c → c ∉ kn → c ∉ st → ∀ (q : Addr) (H' : Hp) (op ds : List Cell), H q = none → SameBut d H H' → GameAt K C CV H' g h w st (kn ++ op) lost f hd d → Ls K H' q (ds.map cellD) → ds.Perm op → Asc ds → op.Nodup → (∀ y, y ∈ op ↔ Reach h w st kn c y) → Q (.ref q) H')
theorem spMetU.mk {K : PySem.W.Frag} {C CV : Addr} {H : Hp} {Q : VK} {E : XK} {g : Addr} {v : V} {h w : Nat} {st kn : List Cell} {lost : Bool} {f hd d : Addr} {c : Cell} (G : GameAt K C CV H g h w st kn lost f hd d) (dv : Den K H v (cellD c)) (kl : kn.length ≤ 36) (q1 : (stateS h w st kn lost ≠ "on" → ∀ t H', Same H H' → H' t = some (.lst [.int 1, .bl true]) → Q (.ref t) H')) (q2 : (stateS h w st kn lost = "on" → ¬ (inF h w c ∧ c ∉ kn) → ∀ t H', Same H H' → H' t = some (.lst [.int 2, .bl true]) → Q (.ref t) H')) (q3 : (stateS h w st kn lost = "on" → inF h w c → c ∉ kn → c ∈ st → ∀ H', SameBut g H H' → GameAt K C CV H' g h w st kn true f hd d → Q .non H')) (q4 : (stateS h w st kn lost = "on" → inF h w c → c ∉ kn → c ∉ st → ∀ (q : Addr) (H' : Hp) (op ds : List Cell), H q = none → SameBut d H H' → GameAt K C CV H' g h w st (kn ++ op) lost f hd d → Ls K H' q (ds.map cellD) → ds.Perm op → Asc ds → op.Nodup → (∀ y, y ∈ op ↔ Reach h w st kn c y) → Q (.ref q) H')) : spMetU K C CV [.ref g, v] H Q E := ⟨g, v, h, w, st, kn, lost, f, hd, d, c, rfl, G, dv, kl, q1, q2, q3, q4⟩
section
variable {P : Program} {w : World} {K : PySem.W.Frag} {mg : Str → Option Value} {base : Heap} {Z : Adr}
theorem ok_lstate {f : Addr} {fd : FuncData} (F : Fun K "_law_state" "_law_state" s__law_state f fd) (T : Txt K mg Z) : FnOk P w K mg base (CXE P w) 1 f fd ["height", "width", "stones", "known", "lost"] (spLState K) := by
  refine F.rok sc__law_state (fun vs H Q E h => ?_) (fun cdv A outer s H vs Q E hr h => ?_)
  · obtain ⟨h, w, p, q, st, kn, lost, rfl, _⟩ := h; rfl
  · obtain ⟨h, w, p, q, st, kn, lost, rfl, h6, w6, ⟨ps, ep, Dp⟩, ⟨qs, eq, Dq⟩, hq⟩ := h
    have hu := hu60 hr
    refine ⟨_, (rss_cons (rs_if (rt_val (rv 4)) (rss_one (rs_ret r_str)) rss_nil) (rss_one (rs_ret (r_ix (k_ix (K := K)) (r_lst (ra_cons r_str (ra_cons r_str ra_nil))) (r_callTy call_int1 rfl T.b_int bt_int (ra_cons (r_cmp (op_eq.or (k_eqD (K := K) hu)) (r_op op_addG (r_callB (k_len (K := K)) rfl T.b_len bt_len (ra_cons (rv 3) ra_nil)) (r_callB (k_len (K := K)) rfl T.b_len bt_len (ra_cons (rv 2) ra_nil))) (r_op op_mulG (rv 0) (rv 1)) (nomark _)) ra_nil)))))), ?_⟩
    unfold stateS at hq
    refine ⟨_, rfl, _, rfl, ite_b (fun h1 => ?_) (fun h1 => ?_)⟩
    · have := hq H (Same.refl _)
      rw [if_pos h1] at this; exact this
    refine ⟨sz rfl, fun p1 n1 => ?_⟩
    have t1 := Same.put (o := .lst [V.str "on", V.str "won"]) n1
    have hq1 := hq _ t1
    rw [if_neg (by rw [h1]; decide)] at hq1
    refine ⟨_, rfl, .inl ⟨q, _, rfl, .inl (SqL.of (t1 _ _ eq)), _, rfl, .inl ⟨p, _, rfl, .inl (SqL.of (t1 _ _ ep)), ?_⟩⟩⟩
    refine ⟨_, rfl, _, rfl, .inl ⟨by omega, by omega⟩, .inl ⟨rfl, ?_⟩⟩
    have l1 : ps.length = st.length := by rw [Dp.length, List.length_map]
    have l2 : qs.length = kn.length := by rw [Dq.length, List.length_map]
    rw [dec_v, l1, l2]
    have ed : decide (((kn.length : Nat) : Int) + ((st.length : Nat) : Int) = (h : Int) * (w : Int)) = decide (kn.length + st.length = h * w) := by
      rw [decide_eq_decide]; omega
    rw [ed]
    by_cases hw : kn.length + st.length = h * w
    · rw [if_pos hw] at hq1
      rw [decide_eq_true hw]
      exact .inr ⟨true, rfl, .inl ⟨p1, _, _, _, rfl, rfl, .of upd_same, atI_nat (j := 1) rfl, hq1⟩⟩
    · rw [if_neg hw] at hq1
      rw [decide_eq_false hw]
      exact .inr ⟨false, rfl, .inl ⟨p1, _, _, _, rfl, rfl, .of upd_same, atI_nat (j := 0) rfl, hq1⟩⟩
theorem ok_due {f : Addr} {fd : FuncData} (F : Fun K "_law_due" "_law_due" s__law_due f fd) (T : Txt K mg Z) (D__law_opened : Df P w K mg base 3 "_law_opened" ["height", "width", "stones", "known", "cell"] (spOpened K)) : FnOk P w K mg base (CXE P w) 4 f fd ["height", "width", "stones", "known", "state", "cell"] (spDue K) := by
  refine F.rok sc__law_due (fun vs H Q E h => ?_) (fun cdv A outer s H vs Q E hr h => ?_)
  · obtain ⟨h, w, p, q, ss, v, st, kn, c, rfl, _⟩ := h; rfl
  · obtain ⟨h, w, p, q, ss, v, st, kn, c, rfl, h6, w6, lp, lq, dv, q1, q2, q3, q4⟩ := h
    have hu := hu60 hr
    have hu' := hu61 hr
    refine ⟨_, (rss_cons (rs_if (rt_cmp (op_ne.or (k_neD (K := K) hu)) (rv 4) r_str (nomark _)) (rss_one (rs_ret (r_lst (ra_cons r_int (ra_cons r_bl ra_nil))))) rss_nil) (rss_cons (rs_if (rt_b (rb_or (rt_not (rt_chain op_le op_lt r_int (r_ix (k_ix (K := K)) (rv 5) r_int) (rv 0))) (rb_or (rt_not (rt_chain op_le op_lt r_int (r_ix (k_ix (K := K)) (rv 5) r_int) (rv 1))) (rb_or1 (rt_cmp (op_in_str.or (k_inD (K := K) hu')) (rv 5) (rv 3) (by rfl)))))) (rss_one (rs_ret (r_lst (ra_cons r_int (ra_cons r_bl ra_nil))))) rss_nil) (rss_cons (rs_if (rt_cmp (op_in_str.or (k_inD (K := K) hu')) (rv 5) (rv 2) (by rfl)) (rss_one (rs_ret r_non)) rss_nil) (rss_one (rs_ret (r_callB (k_sortC (K := K) hu) rfl T.b_sorted bt_sorted (ra_cons (r_def D__law_opened hr rfl passE (ra_cons (rv 0) (ra_cons (rv 1) (ra_cons (rv 2) (ra_cons (rv 3) (ra_cons (rv 5) ra_nil)))))) ra_nil))))))), ?_⟩
    refine seq_mid (fun σ H1 => H1 = H ∧ ss = "on" ∧ σ = [some (.int h), some (.int w), some (.ref p), some (.ref q), some (.str ss), some v]) (fun R hR => ?_) ?_
    · refine ⟨_, rfl, .inl ⟨rfl, _, rfl, ?_⟩⟩
      have es : decide (V.str ss = V.str "on") = decide (ss = "on") := by rw [decide_eq_decide]; exact ⟨fun z => by injection z, fun z => by rw [z]⟩
      rw [es]
      refine ite_b (fun hb => ⟨sz rfl, fun t nt => q1 (of_decide_eq_false (by simpa only [Bool.not_eq_true'] using hb)) t _ (Same.put nt) upd_same⟩) (fun hb => hR _ _ ⟨rfl, of_decide_eq_true (by simpa only [Bool.not_eq_false'] using hb), rfl⟩)
    rintro σ H ⟨rfl, son, rfl⟩
    refine seq_mid (fun σ H1 => H1 = H ∧ inF h w c ∧ c ∉ kn ∧ σ = [some (.int h), some (.int w), some (.ref p), some (.ref q), some (.str ss), some v]) (fun R hR => ?_) ?_
    · have bad : ¬ (inF h w c ∧ c ∉ kn) → [V.int 2, V.bl true].length ≤ sizeLine ∧ ∀ t, H t = none → Q (.ref t) (upd H t (.lst [.int 2, .bl true])) := fun z => ⟨sz rfl, fun t nt => q2 son z t _ (Same.put nt) upd_same⟩
      refine ⟨_, rfl, rd_fst dv ⟨_, _, rfl, rfl, _, rfl, ?_⟩⟩
      refine chain_lt (m := (h : Int)) (fun _ q => ⟨_, rfl, q⟩) (ite_b (fun hb => ?_) (fun hb => ?_))
      · exact bad fun z => of_decide_eq_false (by simpa only [Bool.not_eq_true'] using hb) z.1.1
      have hb1 : 0 ≤ c.1 ∧ c.1 < (h : Int) := of_decide_eq_true (by simpa only [Bool.not_eq_false'] using hb)
      refine ⟨_, rfl, rd_snd dv ⟨_, _, rfl, rfl, _, rfl, ?_⟩⟩
      refine chain_lt (m := (w : Int)) (fun _ q => ⟨_, rfl, q⟩) (ite_b (fun hb => ?_) (fun hb => ?_))
      · exact bad fun z => of_decide_eq_false (by simpa only [Bool.not_eq_true'] using hb) z.1.2
      have hb2 : 0 ≤ c.2 ∧ c.2 < (w : Int) := of_decide_eq_true (by simpa only [Bool.not_eq_false'] using hb)
      refine ⟨_, rfl, _, rfl, .inr (rd_in dv lq.den ⟨_, rfl, ite_b (fun hb => ?_) (fun hb => ?_)⟩)⟩
      · exact bad fun z => z.2 (of_decide_eq_true hb)
      · exact hR _ _ ⟨rfl, ⟨hb1, hb2⟩, of_decide_eq_false hb, rfl⟩
    rintro σ H ⟨rfl, hin, nk, rfl⟩
    refine seq_mid (fun σ H1 => H1 = H ∧ c ∉ st ∧ σ = [some (.int h), some (.int w), some (.ref p), some (.ref q), some (.str ss), some v]) (fun R hR => ?_) ?_
    · refine ⟨_, rfl, _, rfl, .inr (rd_in dv lp.den ⟨_, rfl, ite_b (fun hb => ?_) (fun hb => hR _ _ ⟨rfl, of_decide_eq_false hb, rfl⟩)⟩)⟩
      exact q3 son hin nk (of_decide_eq_true hb) _ (Same.refl _)
    rintro σ H ⟨rfl, ns, rfl⟩
    refine ⟨_, rfl, _, rfl, _, rfl, _, rfl, _, rfl, h, w, p, q, v, st, kn, c, rfl, h6, w6, lp.den, lq.den, dv, hin, fun l H1 cs fr nd mem => ?_⟩
    obtain ⟨xs, ex, D⟩ := fr.ls
    have c36 : cs.length ≤ 36 := by
      have := nodup_le (l2 := fieldL h w) nd fun y hy => mem_field.mpr (((mem y).mp hy).inF hin)
      rw [field_len] at this
      have : h * w ≤ 6 * 6 := Nat.mul_le_mul h6 w6
      omega
    refine ⟨l, xs, cs, rfl, SqL.of ex, D, by omega, fun q' ws ds hn pm D' pc as => ?_⟩
    have ndd : ds.Nodup := pc.nodup_iff.mpr nd
    exact q4 son hin nk ns q' _ ds (fr.same.and hn) (.new hn D') (asc_strict as ndd) (by rw [pc.length_eq]; exact c36) fun y => by rw [pc.mem_iff]; exact mem y
theorem ok_metu {f : Addr} {fd : FuncData} (F : Fun K "_law_met" "_law_met" s__law_met f fd) (T : Txt K mg Z) (N_Game_uncover : Mth P w K mg base 4 Z.Game "uncover" ["self", "cell"] (spUncover K Z.Game Z.View Z.Over Z.NoCell)) : FnOk P w K mg base (CXE P w) 5 f fd ["game", "cell"] (spMetU K Z.Game Z.View) := by
  refine F.rok sc__law_met (fun vs H Q E h => ?_) (fun cdv A outer s H vs Q E hr h => ?_)
  · obtain ⟨g, v, h, w, st, kn, lost, f, hd, d, c, rfl, _⟩ := h; rfl
  · obtain ⟨g, v, h, w, st, kn, lost, fl, hh, d, c, rfl, G, dv, kl, q1, q2, q3, q4⟩ := h
    obtain ⟨dx, hg⟩ := G.ob
    refine ⟨_, (rss_one (rs_try rfl rfl (rsx_ret (rx_meth N_Game_uncover hr (rv 0) (ra_cons (rv 1) ra_nil))) (rh_cons (i := 2) rfl sc__law_met.nd rfl rfl rfl T.c_Over T.x_Over (fun _ => (rss_one (rs_ret (r_lst (ra_cons r_int (ra_cons (r_callB (k_isiG (K := K)) rfl T.b_isinstance bt_isinstance (ra_cons (rv 2) (ra_cons (r_cls T.c_FieldError rfl) ra_nil))) ra_nil)))))) (rh_cons (i := 2) rfl sc__law_met.nd rfl rfl rfl T.c_NoCell T.x_NoCell (fun _ => (rss_one (rs_ret (r_lst (ra_cons r_int (ra_cons (r_callB (k_isiG (K := K)) rfl T.b_isinstance bt_isinstance (ra_cons (rv 2) (ra_cons (r_cls T.c_FieldError rfl) ra_nil))) ra_nil)))))) rh_nil)))), ?_⟩
    refine ⟨_, rfl, g, dx, _, rfl, hg, g_none _ _ _ _ (by decide +kernel) (by decide +kernel) (by decide +kernel) (by decide +kernel), _, rfl, ?_⟩
    dsimp only [tNil]
    refine spUncover.mk G dv kl (fun ne H' s' => ?_) (fun on nn H' s' => ?_) q3 q4
    · refine ⟨Z.Over, rfl, .inl ⟨rfl, fun ea hea => ?_⟩⟩
      have s8 := Same.put (o := ErrO ea Z.Over) hea
      refine ⟨_, rfl, .inl ⟨_, _, _, rfl, rfl, .inr ⟨ea, Z.Over, rfl, upd_same, T.q_of, ?_⟩⟩⟩
      exact ⟨sz rfl, fun q hq => q1 ne q _ (s'.trans (s8.and hq)) upd_same⟩
    · obtain ⟨m1, m2, m3⟩ := miss_of T.x_NoCell T.q_no
      refine ⟨Z.NoCell, rfl, .inr ⟨m1, m2, m3, .inl ⟨rfl, fun ea hea => ?_⟩⟩⟩
      have s8 := Same.put (o := ErrO ea Z.NoCell) hea
      refine ⟨_, rfl, .inl ⟨_, _, _, rfl, rfl, .inr ⟨ea, Z.NoCell, rfl, upd_same, T.q_nf, ?_⟩⟩⟩
      exact ⟨sz rfl, fun q hq => q2 on nn q _ (s'.trans (s8.and hq)) upd_same⟩
end
end My
set_option Elab.async false
set_option linter.all false
set_option maxRecDepth 100000
set_option maxHeartbeats 1000000
namespace My
open PySem L2
@[reducible] def s17 (a h w p gl g kq st vl : V) (o1 o2 o3 o4 o5 o6 o7 o8 : Option V) : L2.St := [some a, some h, some w, some p, some gl, some g, some kq, some st, some vl, o1, o2, o3, o4, o5, o6, o7, o8]
def Mv (g d : Addr) (H H' : Hp) : Prop := ∀ b o, H b = some o → b ≠ g → b ≠ d → H' b = some o
theorem Mv.trans {g d : Addr} {H H1 H2 : Hp} (a : Mv g d H H1) (b : Mv g d H1 H2) : Mv g d H H2 := fun c o e n1 n2 => b c o (a c o e n1 n2) n1 n2
theorem mv_same {g d : Addr} {H H' : Hp} (s : Same H H') : Mv g d H H' := fun b o e _ _ => s b o e
theorem mv_g {g d : Addr} {H H' : Hp} (s : SameBut g H H') : Mv g d H H' := fun b o e n _ => s b o e n
theorem mv_d {g d : Addr} {H H' : Hp} (s : SameBut d H H') : Mv g d H H' := fun b o e _ n => s b o e n
theorem Mv.but {g d q : Addr} {H H1 H2 : Hp} (a : Mv g d H H1) (s : SameBut q H1 H2) (nq : H q = none) : Mv g d H H2 := fun b o e n1 n2 => s b o (a b o e n1 n2) (ne_of_none e nq)
section
variable {K : PySem.W.Frag} {C CV : Addr} {H H' : Hp} {g d : Addr} {h w : Nat} {st kn : List Cell} {lost : Bool} {f hd : Addr}
theorem Mv.ne (G : GameAt K C CV H g h w st kn lost f hd d) {b : Addr} {o : HO} (e : H b = some o) (n1 : ∀ C dx fs, o ≠ .ins C dx fs) (n2 : ∀ kvs, o ≠ .dT kvs) : b ≠ g ∧ b ≠ d := by
  obtain ⟨dx, eg⟩ := G.ob
  exact ⟨fun z => by rw [z, eg] at e; exact n1 _ _ _ (Option.some.inj e).symm, fun z => by rw [z, G.dc] at e; exact n2 _ (Option.some.inj e).symm⟩
theorem Mv.tups (m : Mv g d H H') (G : GameAt K C CV H g h w st kn lost f hd d) : Tups H H' := fun b xs e =>
  have n := Mv.ne G e (by intro _ _ _ z; cases z) (by intro _ z; cases z)
  m b _ e n.1 n.2
theorem Mv.lst (m : Mv g d H H') (G : GameAt K C CV H g h w st kn lost f hd d) {q : Addr} {xs : List V} (e : H q = some (.lst xs)) : H' q = some (.lst xs) :=
  have n := Mv.ne G e (by intro _ _ _ z; cases z) (by intro _ z; cases z)
  m _ _ e n.1 n.2
theorem Mv.ls (m : Mv g d H H') (G : GameAt K C CV H g h w st kn lost f hd d) {q : Addr} {cs : List Cell} (l : Ls K H q (cs.map cellD)) : Ls K H' q (cs.map cellD) := let ⟨xs, e, D⟩ := l; ⟨xs, m.lst G e, (m.tups G).cells D⟩
theorem Mv.seq (m : Mv g d H H') (G : GameAt K C CV H g h w st kn lost f hd d) {a : Addr} {xs : List V} (l : SqL K H a xs) : SqL K H' a xs := by
  rcases l with (e | ⟨ob, e⟩) | e
  · exact .inl (.inl (m.lst G e))
  · have n := Mv.ne G e (by intro _ _ _ z; cases z) (by intro _ z; cases z)
    exact .inl (.inr ⟨ob, m _ _ e n.1 n.2⟩)
  · exact .inr e
def VwOk (CV g vl : Addr) (H : Hp) (u : V) : Prop := ∃ (t x dx l r : Addr) (zs : List Str) (wd : Nat), u = .ref t ∧ H t = some (.tup [.ref x, .ref r]) ∧ H x = some (.ins CV dx (fView l zs.length wd)) ∧ H l = some (.lst (zs.map V.str)) ∧ H r = some (.lst (zs.map V.str)) ∧ x ≠ g ∧ l ≠ vl ∧ r ≠ vl
theorem Mv.vw (m : Mv g d H H') (G : GameAt K C CV H g h w st kn lost f hd d) {vl : Addr} {u : V} (v : VwOk CV g vl H u) : VwOk CV g vl H' u := by
  obtain ⟨t, x, dx, l, r, zs, wd, e1, e2, e3, e4, e5, n1, n2, n3⟩ := v
  have nd : x ≠ d := fun z => by rw [z, G.dc] at e3; cases e3
  exact ⟨t, x, dx, l, r, zs, wd, e1, m.tups G _ _ e2, m _ _ e3 n1 nd, m.lst G e4, m.lst G e5, n1, n2, n3⟩
theorem vw_but {vl : Addr} {ws : List V} {u : V} (s : SameBut vl H H') (e : H vl = some (.lst ws)) (v : VwOk CV g vl H u) : VwOk CV g vl H' u := by
  obtain ⟨t, x, dx, l, r, zs, wd, e1, e2, e3, e4, e5, n1, n2, n3⟩ := v
  exact ⟨t, x, dx, l, r, zs, wd, e1, s _ _ e2 (ne_of e2 e (by intro z; cases z)), s _ _ e3 (ne_of e3 e (by intro z; cases z)), s _ _ e4 n2, s _ _ e5 n3, n1, n2, n3⟩
theorem game_vl {vl : Addr} {ws : List V} (G : GameAt K C CV H g h w st kn lost f hd d) (s : SameBut vl H H') (e : H vl = some (.lst ws)) (hw : ∀ u ∈ ws, VwOk CV g vl H u) (n : vl ≠ hd) : GameAt K C CV H' g h w st kn lost f hd d := by
  obtain ⟨dx, e0⟩ := G.ob
  obtain ⟨dy, ly, e1, e2⟩ := G.fl.ob
  have nly : ly ≠ vl := by
    intro z
    rw [z, e] at e2
    injection e2 with e2
    injection e2 with e2
    obtain ⟨z0, zt, ez, _⟩ := G.fl.vw.toRect.head
    rw [ez] at e2
    subst e2
    obtain ⟨t, _, _, _, _, _, _, q, _⟩ := hw (V.str z0) List.mem_cons_self
    cases q
  exact ⟨⟨dx, s _ _ e0 (ne_of e e0 (by intro z; cases z)).symm⟩, ⟨⟨dy, ly, s _ _ e1 (ne_of e e1 (by intro z; cases z)).symm, s _ _ e2 nly⟩, G.fl.vw⟩, s.ls e n.symm G.hs, s _ _ G.dc (ne_of e G.dc (by intro z; cases z)).symm⟩
structure LSt (K : PySem.W.Frag) (C CV : Addr) (Hb H : Hp) (g d vl fl hh kq : Addr) (h w : Nat) (st kn kn' : List Cell) (lost : Bool) (n : Nat) : Prop where
  mv : Mv g d Hb H
  G : GameAt K C CV H g h w st kn lost fl hh d
  lk : Ls K H kq (kn'.map cellD)
  nk : kq ≠ vl
  vs : ∃ ws, H vl = some (.lst ws) ∧ ws.length = n ∧ ∀ u ∈ ws, VwOk CV g vl H u
  mem : ∀ y, y ∈ kn ↔ y ∈ kn'
  len : kn.length = kn'.length
  nd : kn.Nodup
  inn : ∀ y ∈ kn, inF h w y
theorem LSt.l36 {Hb : Hp} {vl kq : Addr} {kn' : List Cell} {n : Nat} (L : LSt K C CV Hb H g d vl f hd kq h w st kn kn' lost n) (h6 : h ≤ 6) (w6 : w ≤ 6) : kn.length ≤ 36 := by
  have := nodup_le (l2 := fieldL h w) L.nd fun y hy => mem_field.mpr (L.inn y hy)
  rw [field_len] at this
  have : h * w ≤ 6 * 6 := Nat.mul_le_mul h6 w6
  omega
theorem LSt.mono {Hb : Hp} {vl kq : Addr} {kn' : List Cell} {n : Nat} (L : LSt K C CV Hb H g d vl f hd kq h w st kn kn' lost n) (s : Same H H') : LSt K C CV Hb H' g d vl f hd kq h w st kn kn' lost n :=
  ⟨L.mv.trans (mv_same s), L.G.mono s, L.lk.mono s, L.nk, let ⟨ws, a, b, c⟩ := L.vs; ⟨ws, s _ _ a, b, fun u hu => (mv_same s).vw L.G (c u hu)⟩, L.mem, L.len, L.nd, L.inn⟩
end
end My
set_option Elab.async false
set_option linter.all false
set_option maxRecDepth 100000
set_option maxHeartbeats 2000000
namespace My
open PySem L2
theorem sh_told (ds : List Cell) (n : Int) : shD (.lst (ds.map cellD)) (.lst [.int n, .bl true]) = true := by
  match ds with
  | [] => rfl
  | [c] => rfl
  | [c, c2] => rfl
  | c :: c2 :: c3 :: ds => rfl
theorem ne_told {ds : List Cell} {n : Int} : eqD (.lst (ds.map cellD)) (.lst [.int n, .bl true]) = false := by
  match ds with
  | [] => rfl
  | c :: ds => rfl
def DueC (K : PySem.W.Frag) (H : Hp) (h w : Nat) (st kn kn' : List Cell) (lost : Bool) (c : Cell) (u : V) : Prop :=
  (stateS h w st kn lost ≠ "on" ∧ ∃ t, u = .ref t ∧ H t = some (.lst [.int 1, .bl true])) ∨
  (stateS h w st kn lost = "on" ∧ ¬ (inF h w c ∧ c ∉ kn') ∧ ∃ t, u = .ref t ∧ H t = some (.lst [.int 2, .bl true])) ∨
  (stateS h w st kn lost = "on" ∧ inF h w c ∧ c ∉ kn' ∧ c ∈ st ∧ u = .non) ∨
  (stateS h w st kn lost = "on" ∧ inF h w c ∧ c ∉ kn' ∧ c ∉ st ∧ ∃ (t : Addr) (ds : List Cell), u = .ref t ∧ Ls K H t (ds.map cellD) ∧ ds.Pairwise cellLt ∧ ds.length ≤ 36 ∧ ∀ y, y ∈ ds ↔ Reach h w st kn' c y)
def FndC (K : PySem.W.Frag) (C CV : Addr) (H0 H : Hp) (g d fl hh : Addr) (h w : Nat) (st kn : List Cell) (lost : Bool) (u z : V) : Prop :=
  (∃ n : Int, (n = 1 ∨ n = 2) ∧ ∃ (t t2 : Addr), u = .ref t ∧ z = .ref t2 ∧ H t = some (.lst [.int n, .bl true]) ∧ H t2 = some (.lst [.int n, .bl true]) ∧ GameAt K C CV H g h w st kn lost fl hh d) ∨
  (u = .non ∧ z = .non ∧ GameAt K C CV H g h w st kn true fl hh d) ∨
  (∃ (t q : Addr) (ds op : List Cell), u = .ref t ∧ z = .ref q ∧ q ≠ t ∧ H0 q = none ∧ lost = false ∧ Ls K H t (ds.map cellD) ∧ Ls K H q (ds.map cellD) ∧ ds.length ≤ 36 ∧ ds.Perm op ∧ op.Nodup ∧ (∀ y ∈ op, inF h w y ∧ y ∉ kn) ∧ GameAt K C CV H g h w st (kn ++ op) lost fl hh d)
def spLaw (K : PySem.W.Frag) : Sp := fun vs H Q _ => ∃ (a : Addr) (ns : List Int), vs = [.ref a] ∧ SqL K H a (ns.map V.int) ∧ ∀ H', Q (.bl true) H'
section
variable {P : Program} {w : World} {K : PySem.W.Frag} {mg : Str → Option Value} {base : Heap} {Z : Adr}
theorem ok_law {f : Addr} {fd : FuncData} (F : Fun K "law" "law" s_law f fd) (T : Txt K mg Z) (D__law_cell_at : Df P w K mg base 1 "_law_cell_at" ["script", "k"] (spCell K)) (D__law_mix : Df P w K mg base 1 "_law_mix" ["cell", "k", "many"] spMix) (D__law_field_by : Df P w K mg base 2 "_law_field_by" ["script", "most"] (spField K))
    (D__law_shown : Df P w K mg base 3 "_law_shown" ["height", "width", "stones", "known"] (spShown K)) (D__law_places : Df P w K mg base 2 "_law_places" ["found", "due"] (spPlaces K)) (D__law_state : Df P w K mg base 1 "_law_state" ["height", "width", "stones", "known", "lost"] (spLState K)) (D__law_due : Df P w K mg base 4 "_law_due" ["height", "width", "stones", "known", "state", "cell"] (spDue K))
    (D__law_met : Df P w K mg base 5 "_law_met" ["game", "cell"] (spMetU K Z.Game Z.View)) (M_Game : Md P w K mg base 5 "Game" ["self", "height", "width", "stones"] Z.Game (spGInit K Z.Game Z.View Z.BadView Z.BadLaying)) (N_Game_view : Mth P w K mg base 5 Z.Game "view" ["self"] (spGView K Z.Game Z.View)) (N_Game_state : Mth P w K mg base 1 Z.Game "state" ["self"] (spGState K Z.Game Z.View)) :
    FnOk P w K mg base (CXE P w) 7 f fd ["script"] (spLaw K) := by
  refine F.rok sc_law (fun vs H Q E h => ?_) (fun cdv A outer s H vs Q E hr h => ?_)
  · obtain ⟨a, ns, rfl, _⟩ := h; rfl
  · obtain ⟨a, ns, rfl, hS, hq⟩ := h
    have hu := hu60 hr
    have hu' := hu61 hr
    refine ⟨_, (rss_cons (rs_asg (r_def D__law_field_by hr rfl passE (ra_cons (rv 0) (ra_cons r_int ra_nil))) (rg_tup rfl (rgs_cons (rg_name (i := 1) sc_law.nd rfl (by first | exact Or.inl rfl | exact Or.inr rfl)) (rgs_cons (rg_name (i := 2) sc_law.nd rfl (by first | exact Or.inl rfl | exact Or.inr rfl)) (rgs_cons (rg_name (i := 3) sc_law.nd rfl (by first | exact Or.inl rfl | exact Or.inr rfl)) rgs_nil))))) (rss_cons (rs_set (i := 4) sc_law.nd rfl (by first | exact Or.inl rfl | exact Or.inr rfl) (r_callTy (k_list (K := K)) rfl T.b_list bt_list (ra_cons (rv 3) ra_nil))) (rss_cons (rs_set (i := 5) sc_law.nd rfl (by first | exact Or.inl rfl | exact Or.inr rfl) (r_make M_Game hr rfl passE (ra_cons (rv 1) (ra_cons (rv 2) (ra_cons (rv 4) ra_nil))))) (rss_cons (rs_expr (kr_bm (K := K) PySem.F.plainAttrs_list PySem.F.slot_list_append PySem.F.type_list_append mt_append (rv 4) (ra_cons (r_tup (ra_cons r_int (ra_cons r_int ra_nil))) ra_nil))) (rss_cons (rs_set (i := 6) sc_law.nd rfl (by first | exact Or.inl rfl | exact Or.inr rfl) (r_lst ra_nil)) (rss_cons (rs_set (i := 7) sc_law.nd rfl (by first | exact Or.inl rfl | exact Or.inr rfl) (r_def D__law_state hr rfl passE (ra_cons (rv 1) (ra_cons (rv 2) (ra_cons (rv 3) (ra_cons (rv 6) (ra_cons r_bl ra_nil))))))) (rss_cons (rs_set (i := 8) sc_law.nd rfl (by first | exact Or.inl rfl | exact Or.inr rfl) (r_lst ra_nil)) (rss_cons (rs_for PassesOwn.never rfl (ri_range1 rfl T.b_range (ra_cons (r_op op_mod (r_def D__law_cell_at hr rfl passE (ra_cons (rv 0) (ra_cons r_int ra_nil))) r_int) ra_nil)) (rg_name (i := 9) sc_law.nd rfl (by first | exact Or.inl rfl | exact Or.inr rfl)) (rss_cons (rs_set (i := 10) sc_law.nd rfl (by first | exact Or.inl rfl | exact Or.inr rfl) (r_def D__law_cell_at hr rfl passE (ra_cons (rv 0) (ra_cons (r_op op_addG r_int (rv 9)) ra_nil)))) (rss_cons (rs_set (i := 11) sc_law.nd rfl (by first | exact Or.inl rfl | exact Or.inr rfl) (r_tup (ra_cons (r_op op_sub (r_def D__law_mix hr rfl passE (ra_cons (rv 10) (ra_cons r_int (ra_cons (r_op op_addG (rv 1) r_int) ra_nil)))) r_int) (ra_cons (r_op op_sub (r_def D__law_mix hr rfl passE (ra_cons (rv 10) (ra_cons r_int (ra_cons (r_op op_addG (rv 2) r_int) ra_nil)))) r_int) ra_nil)))) (rss_cons (rs_if (rt_cmp op_gt (r_op op_mod (rv 10) r_int) r_int (nomark _)) (rss_cons (rs_set (i := 12) sc_law.nd rfl (by first | exact Or.inl rfl | exact Or.inr rfl) (r_lst ra_nil)) (rss_cons (rs_for PassesOwn.never rfl (ri_range1 rfl T.b_range (ra_cons (rv 1) ra_nil)) (rg_name (i := 13) sc_law.nd rfl (by first | exact Or.inl rfl | exact Or.inr rfl)) (rss_one (rs_set (i := 12) sc_law.nd rfl (by first | exact Or.inl rfl | exact Or.inr rfl) (r_op op_addG (rv 12) (r_comp (by rfl) rfl (ri_range1 rfl T.b_range (ra_cons (rv 2) ra_nil)) (fun _ _ _ => (rif_one (rt_cmp (op_notin_str.or (k_notInD (K := K) hu')) (r_tup (ra_cons (rv 14) (ra_cons (rv 0) ra_nil))) (r_op op_addG (rv 4) (rv 7)) (by rfl)))) (fun _ _ _ => (r_tup (ra_cons (rv 14) (ra_cons (rv 0) ra_nil))))))))) (rss_one (rs_if (rt_cmp op_gt (r_callB (k_len (K := K)) rfl T.b_len bt_len (ra_cons (rv 12) ra_nil)) r_int (nomark _)) (rss_one (rs_set (i := 11) sc_law.nd rfl (by first | exact Or.inl rfl | exact Or.inr rfl) (r_ix (k_ix (K := K)) (rv 12) (r_def D__law_mix hr rfl passE (ra_cons (rv 10) (ra_cons r_int (ra_cons (r_callB (k_len (K := K)) rfl T.b_len bt_len (ra_cons (rv 12) ra_nil)) ra_nil))))))) rss_nil)))) rss_nil) (rss_cons (rs_set (i := 14) sc_law.nd rfl (by first | exact Or.inl rfl | exact Or.inr rfl) (r_def D__law_due hr rfl passE (ra_cons (rv 1) (ra_cons (rv 2) (ra_cons (rv 3) (ra_cons (rv 6) (ra_cons (rv 7) (ra_cons (rv 11) ra_nil)))))))) (rss_cons (rs_set (i := 15) sc_law.nd rfl (by first | exact Or.inl rfl | exact Or.inr rfl) (r_def D__law_met hr rfl passE (ra_cons (rv 5) (ra_cons (rv 11) ra_nil)))) (rss_cons (rs_if (rt_cmp (op_ne.or (k_neD (K := K) hu)) (rv 15) (rv 14) (nomark _)) (rss_one (rs_ret r_bl)) rss_nil) (rss_cons (rs_if (rt_cmp op_isN (rv 14) r_non (nomark _)) (rss_one (rs_set (i := 7) sc_law.nd rfl (by first | exact Or.inl rfl | exact Or.inr rfl) r_str)) (rss_one (rs_if (rt_b (rb_and (rt_cmp (op_ne.or (k_neD (K := K) hu)) (rv 14) (r_lst (ra_cons r_int (ra_cons r_bl ra_nil))) (nomark _)) (rb_and1 (rt_cmp (op_ne.or (k_neD (K := K) hu)) (rv 14) (r_lst (ra_cons r_int (ra_cons r_bl ra_nil))) (nomark _))))) (rss_cons (rs_if (rt_not (rt_val (r_def D__law_places hr rfl passE (ra_cons (rv 15) (ra_cons (rv 14) ra_nil))))) (rss_one (rs_ret r_bl)) rss_nil) (rss_cons (rs_expr (kr_bm (K := K) PySem.F.plainAttrs_list PySem.F.slot_list_append PySem.F.type_list_append mt_append (rv 15) (ra_cons (r_tup (ra_cons r_int (ra_cons r_int ra_nil))) ra_nil))) (rss_cons (rs_set (i := 6) sc_law.nd rfl (by first | exact Or.inl rfl | exact Or.inr rfl) (r_op op_addG (rv 6) (rv 14))) (rss_one (rs_set (i := 7) sc_law.nd rfl (by first | exact Or.inl rfl | exact Or.inr rfl) (r_def D__law_state hr rfl passE (ra_cons (rv 1) (ra_cons (rv 2) (ra_cons (rv 3) (ra_cons (rv 6) (ra_cons r_bl ra_nil))))))))))) rss_nil))) (rss_cons (rs_set (i := 16) sc_law.nd rfl (by first | exact Or.inl rfl | exact Or.inr rfl) (r_meth0 N_Game_view hr passE (rv 5))) (rss_cons (rs_if (rt_b (rb_or (rt_not (rt_val (r_callB (k_isiO (K := K)) rfl T.b_isinstance bt_isinstance (ra_cons (rv 16) (ra_cons (r_cls T.c_View rfl) ra_nil))))) (rb_or1 (rt_cmp (op_ne.or (k_neD (K := K) hu)) (kr_fld (K := K) (rv 16)) (r_def D__law_shown hr rfl passE (ra_cons (rv 1) (ra_cons (rv 2) (ra_cons (rv 3) (ra_cons (rv 6) ra_nil))))) (nomark _))))) (rss_one (rs_ret r_bl)) rss_nil) (rss_cons (rs_expr (kr_bm (K := K) PySem.F.plainAttrs_list PySem.F.slot_list_append PySem.F.type_list_append mt_append (rv 8) (ra_cons (r_tup (ra_cons (rv 16) (ra_cons (r_callTy (k_list (K := K)) rfl T.b_list bt_list (ra_cons (kr_fld (K := K) (rv 16)) ra_nil)) ra_nil))) ra_nil))) (rss_one (rs_if (rt_b (rb_or (rt_cmp (op_ne.or (k_neD (K := K) hu)) (r_meth0 N_Game_state hr passE (rv 5)) (rv 7) (nomark _)) (rb_or1 (rt_not (rt_val (r_callB (k_all (K := K) rfl) rfl T.b_all bt_all (ra_cons (r_compPair (K := K) (x := "one") (z := "rows") (by rfl) rfl (kri_list (K := K) (rv 8)) (fun _ _ _ => rif_nil) (fun _ _ _ => (r_cmp (op_eq.or (k_eqD (K := K) hu)) (kr_fld (K := K) (rv 0)) (rv 1) (nomark _)))) ra_nil))))))) (rss_one (rs_ret r_bl)) rss_nil))))))))))))) (rss_one (rs_ret (r_cmp (op_eq.or (k_eqD (K := K) hu)) (r_meth0 N_Game_state hr passE (rv 5)) (rv 7) (nomark _)))))))))))), ?_⟩
    refine seq_mid (fun σ H1 => ∃ (p : Addr) (h w : Nat) (st : List Cell), Same H H1 ∧ Ls K H1 p (st.map cellD) ∧ (1 ≤ h ∧ h ≤ 6) ∧ (1 ≤ w ∧ w ≤ 6) ∧ st.Sublist (fieldL h w) ∧ σ = [some (.ref a), some (.int h), some (.int w), some (.ref p), none, none, none, none, none, none, none, none, none, none, none, none, none]) (fun R hR => ?_) ?_
    · exact ⟨_, rfl, a, ns, 5, rfl, hS, by decide, by decide, fun t p H' h w st s' np hT lp a1 a2 a3 a4 a5 => ⟨t, _, rfl, hT, rfl, _, _, rfl, _, _, rfl, _, _, rfl, rfl, hR _ _ ⟨p, h, w, st, s', lp, ⟨a1, by omega⟩, ⟨a3, by omega⟩, a5, rfl⟩⟩⟩
    rintro σ H1 ⟨p, h, w, st, s1, lp, bh, bw, sub, rfl⟩
    have asc : st.Pairwise cellLt := (field_asc h (List.mem_range.mpr (by omega)) w (List.mem_range.mpr (by omega))).sublist sub
    have lst : st.length ≤ 36 := by
      have := sub.length_le
      rw [field_len] at this
      have : h * w ≤ 6 * 6 := Nat.mul_le_mul bh.2 bw.2
      omega
    have hsz : sizeB (h : Int) (w : Int) = true := size_iff.mpr ⟨by omega, by omega⟩
    have hlay : layB (blankL h w) w st = true := by
      refine lay_of asc fun c hc => ?_
      have hin := mem_field.mp (sub.subset hc)
      show closedB (shownL h w [] []) w c = true
      rw [closed_shown, decide_eq_true hin]; rfl
    obtain ⟨us, eu, Du⟩ := id lp
    refine seq_mid (fun σ H2 => ∃ gl : Addr, Same H1 H2 ∧ Ls K H2 gl (st.map cellD) ∧ gl ≠ p ∧ H1 gl = none ∧ σ = [some (.ref a), some (.int h), some (.int w), some (.ref p), some (.ref gl), none, none, none, none, none, none, none, none, none, none, none, none]) (fun R hR => ?_) ?_
    · exact ⟨_, rfl, p, _, rfl, .inl (SqL.of eu), fun gl hg => hR _ _ ⟨gl, Same.put hg, .new hg Du, (ne_of_none eu hg).symm, hg, rfl⟩⟩
    rintro σ H2 ⟨gl, s2, lg, ngp, ngl, rfl⟩
    refine seq_mid (fun σ H3 => ∃ (g fl hh d : Addr), Same H2 H3 ∧ gl ≠ hh ∧ GameAt K Z.Game Z.View H3 g h w st [] false fl hh d ∧ σ = [some (.ref a), some (.int h), some (.int w), some (.ref p), some (.ref gl), some (.ref g), none, none, none, none, none, none, none, none, none, none, none]) (fun R hR => ?_) ?_
    · refine ⟨_, rfl, _, rfl, _, rfl, fun x dx nx ndx nex => ?_⟩
      have n2 : (upd H2 dx (.own x)) x = none := by rw [upd_ne nex.symm]; exact nx
      have s6 : Same H2 (upd (upd H2 dx (.own x)) x (.ins Z.Game dx [])) := (Same.put ndx).and n2
      refine ⟨x, dx, gl, h, w, st, rfl, upd_same, lg.mono s6, by omega, fun hb => (by rw [hsz] at hb; cases hb), fun _ hb => (by rw [Int.toNat_natCast, Int.toNat_natCast, hlay] at hb; cases hb), fun _ _ H' f hd d nf nhd nd n1 n2' n3 n4 G keep => ⟨rfl, ?_⟩⟩
      rw [Int.toNat_natCast, Int.toNat_natCast] at G
      obtain ⟨gs, eg, _⟩ := lg
      exact hR _ _ ⟨x, f, hd, d, fun b o e => keep b o (s6 _ _ e) (ne_of_none e nx), ne_of_none eg (s6.free nhd), G, rfl⟩
    rintro σ H3 ⟨g, fl, hh, d, s3, nglh, G3, rfl⟩
    refine seq_mid (fun σ H4 => Same H1 H4 ∧ GameAt K Z.Game Z.View H4 g h w st [] false fl hh d ∧ σ = [some (.ref a), some (.int h), some (.int w), some (.ref p), some (.ref gl), some (.ref g), none, none, none, none, none, none, none, none, none, none, none]) (fun R hR => ?_) ?_
    · obtain ⟨gs, eg, Dg⟩ := lg.mono s3
      refine ⟨_, rfl, .inl ⟨rfl, _, SqL.of eg⟩, sz rfl, fun t ht => ?_⟩
      have st1 := Same.put (o := .tup [V.int 0, V.int 0]) ht
      have e5 := st1 _ _ eg
      have lgs : gs.length ≤ 100 := by rw [Dg.length, List.length_map]; omega
      refine ⟨gl, gs, _, rfl, rfl, e5, ltl (by omega), hR _ _ ⟨(SameBut.refl gl _).put.of ((s2.trans s3).trans st1) ngl, game_but (G3.mono st1) (SameBut.refl gl _).put e5 (Dg.mono st1) nglh, rfl⟩⟩
    rintro σ H4 ⟨s4, G4, rfl⟩
    have sA := s1.trans s4
    refine seq_mid (fun σ H5 => ∃ kq : Addr, Same H4 H5 ∧ H5 kq = some (.lst []) ∧ σ = [some (.ref a), some (.int h), some (.int w), some (.ref p), some (.ref gl), some (.ref g), some (.ref kq), none, none, none, none, none, none, none, none, none, none]) (fun R hR => ?_) ?_
    · exact ⟨by decide, fun q nq => hR _ _ ⟨q, Same.put nq, upd_same, rfl⟩⟩
    rintro σ H5 ⟨kq, s5, ek, rfl⟩
    refine seq_mid (fun σ H6 => Same H5 H6 ∧ σ = [some (.ref a), some (.int h), some (.int w), some (.ref p), some (.ref gl), some (.ref g), some (.ref kq), some (.str (stateS h w st [] false)), none, none, none, none, none, none, none, none, none]) (fun R hR => ?_) ?_
    · refine ⟨_, rfl, _, rfl, _, rfl, _, rfl, ?_⟩
      dsimp only [tCons, tC, tNil]
      refine spLState.mk (kn := []) bh.2 bw.2 (lp.mono (s4.trans s5)) ⟨[], ek, .nil⟩ fun H6 s6 => ?_
      exact hR _ _ ⟨s6, rfl⟩
    rintro σ H6 ⟨s6, rfl⟩
    have sB := sA.trans (s5.trans s6)
    have G6 := G4.mono (s5.trans s6)
    refine seq_mid (fun σ H7 => ∃ vl : Addr, H6 vl = none ∧ Same H6 H7 ∧ H7 vl = some (.lst []) ∧ σ = s17 (.ref a) (.int h) (.int w) (.ref p) (.ref gl) (.ref g) (.ref kq) (.str (stateS h w st [] false)) (.ref vl) none none none none none none none none) (fun R hR => ?_) ?_
    · exact ⟨by decide, fun q nq => hR _ _ ⟨q, nq, Same.put nq, upd_same, rfl⟩⟩
    rintro σ H7 ⟨vl, nvl, s7, evl, rfl⟩
    have lp6 : Ls K H6 p (st.map cellD) := lp.mono (s4.trans (s5.trans s6))
    have hS6 : SqL K H6 a (ns.map V.int) := sB.seq hS
    have nvh : vl ≠ hh := by
      obtain ⟨xs, e, _⟩ := G6.hs
      exact (ne_of_none e nvl).symm
    have ek6 := s6 _ _ ek
    have L0 : LSt K Z.Game Z.View H6 H7 g d vl fl hh kq h w st [] [] false 0 :=
      ⟨mv_same s7, G6.mono s7, ⟨[], s7 _ _ ek6, .nil⟩, ne_of_none ek6 nvl, ⟨[], evl, rfl, fun u hu => (by cases hu)⟩, fun y => Iff.rfl, rfl, List.nodup_nil, fun y hy => (by cases hy)⟩
    refine seq_mid (fun σ H8 => ∃ (kq : Addr) (kn kn' : List Cell) (lost : Bool) (n : Nat) (o1 o2 o3 o4 o5 o6 o7 o8 : Option V), LSt K Z.Game Z.View H6 H8 g d vl fl hh kq h w st kn kn' lost n ∧ σ = s17 (.ref a) (.int h) (.int w) (.ref p) (.ref gl) (.ref g) (.ref kq) (.str (stateS h w st kn lost)) (.ref vl) o1 o2 o3 o4 o5 o6 o7 o8) (fun R hR => ?_) ?_
    · refine ⟨_, rfl, a, ns, 10, rfl, by decide, s7.seq hS6, fun r => ⟨_, _, rfl, rfl, (by show (0 : Int) < 13; decide), _, rfl, ?_, ?_, ?_⟩⟩
      · have := Int.emod_nonneg r (by decide : (13 : Int) ≠ 0); omega
      · have := Int.emod_lt_of_pos r (by decide : (0 : Int) < 13); omega
      have hb := Int.emod_lt_of_pos r (by decide : (0 : Int) < 13)
      refine for_range (lo := 0) (n := (r % 13).toNat) (fun i σ H8 => ∃ (kq : Addr) (kn kn' : List Cell) (lost : Bool) (o1 o2 o3 o4 o5 o6 o7 o8 : Option V), LSt K Z.Game Z.View H6 H8 g d vl fl hh kq h w st kn kn' lost i ∧ σ = s17 (.ref a) (.int h) (.int w) (.ref p) (.ref gl) (.ref g) (.ref kq) (.str (stateS h w st kn lost)) (.ref vl) o1 o2 o3 o4 o5 o6 o7 o8)
        ⟨kq, [], [], false, _, _, _, _, _, _, _, _, L0, rfl⟩ (fun i σ H8 hi hx => ?_) (fun σ H8 hx => ?_)
      · obtain ⟨kq, kn, kn', lost, o1, o2, o3, o4, o5, o6, o7, o8, L, rfl⟩ := hx
        have hi : i < 13 := by omega
        have h6 := bh.2
        have w6 := bw.2
        have k36 := L.l36 h6 w6
        have lpi : Ls K H8 p (st.map cellD) := L.mv.ls G6 lp6
        have hSi : SqL K H8 a (ns.map V.int) := L.mv.seq G6 hS6
        refine seq_mid (fun σ H9 => ∃ ck : Int, H9 = H8 ∧ σ = s17 (.ref a) (.int h) (.int w) (.ref p) (.ref gl) (.ref g) (.ref kq) (.str (stateS h w st kn lost)) (.ref vl) (some (.int (0 + i))) (some (.int ck)) o3 o4 o5 o6 o7 o8) (fun R' hR' => ?_) ?_
        · exact ⟨_, rfl, _, rfl, a, ns, _, rfl, by omega, hSi, fun ck => hR' _ _ ⟨ck, rfl, rfl⟩⟩
        rintro σ H8 ⟨ck, rfl, rfl⟩
        refine seq_mid (fun σ H9 => ∃ (v : V) (c : Cell), Same H8 H9 ∧ Den K H9 v (cellD c) ∧ σ = s17 (.ref a) (.int h) (.int w) (.ref p) (.ref gl) (.ref g) (.ref kq) (.str (stateS h w st kn lost)) (.ref vl) (some (.int (0 + i))) (some (.int ck)) (some v) o4 o5 o6 o7 o8) (fun R' hR' => ?_) ?_
        · refine ⟨_, rfl, _, rfl, _, 1, _, rfl, by omega, fun r1 Ha a1 b1 sa => ⟨_, _, rfl, rfl, _, rfl, _, rfl, _, 2, _, rfl, by omega, fun r2 Hc a2 b2 sc => ⟨_, _, rfl, rfl, sz rfl, fun t nt => hR' _ _ ⟨_, (r1 - 1, r2 - 1), sa.trans (sc.and nt), den_cell, rfl⟩⟩⟩⟩
        rintro σ H9 ⟨v0, c0, s9, dv0, rfl⟩
        refine seq_mid (fun σ H10 => ∃ (v : V) (c : Cell) (o4 o5 : Option V), Same H8 H10 ∧ Den K H10 v (cellD c) ∧ σ = s17 (.ref a) (.int h) (.int w) (.ref p) (.ref gl) (.ref g) (.ref kq) (.str (stateS h w st kn lost)) (.ref vl) (some (.int (0 + i))) (some (.int ck)) (some v) o4 o5 o6 o7 o8) (fun R' hR' => ?_) ?_
        · refine ⟨_, rfl, _, _, rfl, rfl, (by show (0 : Int) < 4; decide), _, _, rfl, rfl, _, rfl, ?_⟩
          refine ite_b (fun h1 => ?_) (fun h1 => hR' _ _ ⟨v0, c0, _, _, s9, dv0, rfl⟩)
          refine seq_mid (fun σ H11 => ∃ fq : Addr, Same H9 H11 ∧ H11 fq = some (.lst []) ∧ σ = s17 (.ref a) (.int h) (.int w) (.ref p) (.ref gl) (.ref g) (.ref kq) (.str (stateS h w st kn lost)) (.ref vl) (some (.int (0 + i))) (some (.int ck)) (some v0) (some (.ref fq)) o5 o6 o7 o8) (fun R'' hR'' => ?_) ?_
          · exact ⟨by decide, fun q nq => hR'' _ _ ⟨q, Same.put nq, upd_same, rfl⟩⟩
          rintro σ H11 ⟨fq, s11, ef, rfl⟩
          refine seq_mid (fun σ H12 => ∃ (fq : Addr) (cs : List Cell) (o5 : Option V), Same H9 H12 ∧ Ls K H12 fq (cs.map cellD) ∧ σ = s17 (.ref a) (.int h) (.int w) (.ref p) (.ref gl) (.ref g) (.ref kq) (.str (stateS h w st kn lost)) (.ref vl) (some (.int (0 + i))) (some (.int ck)) (some v0) (some (.ref fq)) o5 o6 o7 o8) (fun R'' hR'' => ?_) ?_
          · refine ⟨_, rfl, _, rfl, by omega, by omega, ?_⟩
            rw [Int.toNat_natCast]
            refine for_range (lo := 0) (n := h) (fun j σ H12 => ∃ (fq : Addr) (cs : List Cell) (o5 : Option V), Same H9 H12 ∧ Ls K H12 fq (cs.map cellD) ∧ cs.length ≤ j * 6 ∧ σ = s17 (.ref a) (.int h) (.int w) (.ref p) (.ref gl) (.ref g) (.ref kq) (.str (stateS h w st kn lost)) (.ref vl) (some (.int (0 + i))) (some (.int ck)) (some v0) (some (.ref fq)) o5 o6 o7 o8)
              ⟨fq, [], _, s11, ⟨[], ef, .nil⟩, Nat.zero_le _, rfl⟩ (fun j σ H12 hj hx => ?_) (fun σ H12 hx => ?_)
            · obtain ⟨e, cs, o5, g1, g2, lc, rfl⟩ := hx
              refine ⟨_, rfl, _, rfl, _, rfl, by omega, by omega, ?_⟩
              rw [Int.toNat_natCast]
              have e0 : ∀ c : Nat, ((0 : Int) + (j : Int), (c : Int)) = ((j : Int), (c : Int)) := fun c => by rw [Int.zero_add]
              have lkk : kn'.length ≤ 36 := by rw [← L.len]; exact k36
              refine comp_den (K := K) (xs := List.range w) (enc := fun c : Nat => Dt.int (c : Int)) (over_range0 w) (Dens.nats _) (by rw [List.length_range]; exact small (by omega)) (fun c : Nat => !decide (((j : Int), (c : Int)) ∈ st ++ kn')) (fun c : Nat => cellD ((j : Int), (c : Int))) (fun c hc v H5 s5 D G hG => ?_) (fun c hc _ v H5 s5 D G hG => ?_) (fun ys H5 s5 D q5 hq5 => ?_)
              · cases D
                refine ⟨_, rfl, _, rfl, sz rfl, fun t ht => ?_⟩
                have sx := s9.trans (g1.trans (s5.and (o := .tup [V.int (0 + (j : Int)), V.int (c : Int)]) ht))
                refine ⟨_, rfl, _, rfl, rd_cat (lpi.mono sx) (L.lk.mono sx) (by rw [List.length_map, List.length_map]; omega) fun r Hr fr => ?_⟩
                have lr := fr.ls
                rw [← List.map_append] at lr
                refine .inr (rd_notin (den_cell.mono fr.same) lr.den ⟨_, rfl, ?_⟩)
                rw [e0]; exact hG _ ((Same.put ht).trans fr.same)
              · cases D
                refine ⟨_, rfl, _, rfl, sz rfl, fun t ht => hG _ _ (Same.put ht) ?_⟩
                rw [← e0]; exact den_cell
              · have l2 : ((List.range w).filter fun c : Nat => !decide (((j : Int), (c : Int)) ∈ st ++ kn')).length ≤ w := Nat.le_trans (List.length_filter_le _ _) (by rw [List.length_range]; exact Nat.le_refl _)
                have sq := Same.put (o := .lst ys) hq5
                refine rd_cat (g2.mono (s5.trans sq)) (Ls.new hq5 D) (by rw [List.length_map, List.length_map]; omega) fun r H6 f6 => ⟨r, cs ++ ((List.range w).filter fun c : Nat => !decide (((j : Int), (c : Int)) ∈ st ++ kn')).map fun c : Nat => ((j : Int), (c : Int)), _, g1.trans (s5.trans (sq.trans f6.same)), ?_, ?_, rfl⟩
                · rw [List.map_append, List.map_map]; exact f6.ls
                · rw [List.length_append, List.length_map]; omega
            · obtain ⟨e, cs, o5, g1, g2, lc, rfl⟩ := hx
              exact hR'' _ _ ⟨e, cs, o5, g1, g2, rfl⟩
          rintro σ H12 ⟨fq, cs, o5, s12, lf, rfl⟩
          obtain ⟨xs, ex, Dx⟩ := id lf
          refine ⟨_, rfl, .inl ⟨fq, _, rfl, .inl (SqL.of ex), _, _, rfl, rfl, _, rfl, ?_⟩⟩
          refine ite_b (fun h2 => ?_) (fun h2 => hR' _ _ ⟨v0, c0, _, _, s9.trans s12, dv0.mono s12, rfl⟩)
          have h2' : (0 : Int) < (xs.length : Int) := of_decide_eq_true h2
          refine ⟨_, rfl, _, rfl, _, rfl, .inl ⟨fq, _, rfl, .inl (SqL.of ex), _, 3, _, rfl, h2', fun r3 Hm a3 b3 sm => ?_⟩⟩
          obtain ⟨u, mu, au⟩ := atI_of (xs := xs) (i := r3) a3 b3
          obtain ⟨y, my, dy⟩ := dens_mem Dx mu
          exact .inl ⟨fq, _, _, _, rfl, rfl, SqL.of (sm _ _ ex), au, hR' _ _ ⟨u, y, _, _, s9.trans (s12.trans sm), dy.mono sm, rfl⟩⟩
        rintro σ H10 ⟨v, c, o4, o5, s10, dv, rfl⟩
        have L10 := L.mono s10
        refine seq_mid (fun σ H11 => ∃ u : V, Same H10 H11 ∧ DueC K H11 h w st kn kn' lost c u ∧ σ = s17 (.ref a) (.int h) (.int w) (.ref p) (.ref gl) (.ref g) (.ref kq) (.str (stateS h w st kn lost)) (.ref vl) (some (.int (0 + i))) (some (.int ck)) (some v) o4 o5 (some u) o7 o8) (fun R' hR' => ?_) ?_
        · refine ⟨_, rfl, _, rfl, _, rfl, _, rfl, _, rfl, _, rfl, ?_⟩
          dsimp only [tNil]
          refine spDue.mk h6 w6 (lpi.mono s10) L10.lk dv ?_ ?_ ?_ ?_
          · exact fun b t H' s' e => hR' _ _ ⟨_, s', .inl ⟨b, t, rfl, e⟩, rfl⟩
          · exact fun b b2 t H' s' e => hR' _ _ ⟨_, s', .inr (.inl ⟨b, b2, t, rfl, e⟩), rfl⟩
          · exact fun b b1 b2 b3 H' s' => hR' _ _ ⟨_, s', .inr (.inr (.inl ⟨b, b1, b2, b3, rfl⟩)), rfl⟩
          · exact fun b b1 b2 b3 t H' ds s' l as ln mm => hR' _ _ ⟨_, s', .inr (.inr (.inr ⟨b, b1, b2, b3, t, ds, rfl, l, as, ln, mm⟩)), rfl⟩
        rintro σ H11 ⟨u, s11, due, rfl⟩
        have L11 := L10.mono s11
        have memk : c ∉ kn ↔ c ∉ kn' := not_congr (L.mem c)
        refine seq_mid (fun σ H12 => ∃ z : V, Mv g d H11 H12 ∧ FndC K Z.Game Z.View H8 H12 g d fl hh h w st kn lost u z ∧ σ = s17 (.ref a) (.int h) (.int w) (.ref p) (.ref gl) (.ref g) (.ref kq) (.str (stateS h w st kn lost)) (.ref vl) (some (.int (0 + i))) (some (.int ck)) (some v) o4 o5 (some u) (some z) o8) (fun R' hR' => ?_) ?_
        · refine ⟨_, rfl, _, rfl, ?_⟩
          dsimp only [tNil]
          refine spMetU.mk L11.G (dv.mono s11) k36 (fun b t2 H' s' e2 => ?_) (fun b b2 t2 H' s' e2 => ?_) (fun b b1 b2 b3 H' sg G' => ?_) (fun b b1 b2 b3 q H' op ds nq sd G' lq pm as nd mm => ?_)
          · rcases due with ⟨_, t, rfl, e⟩ | ⟨z, _⟩ | ⟨z, _⟩ | ⟨z, _⟩
            · exact hR' _ _ ⟨_, mv_same s', .inl ⟨1, .inl rfl, t, t2, rfl, rfl, s' _ _ e, e2, L11.G.mono s'⟩, rfl⟩
            all_goals exact absurd z b
          · rcases due with ⟨z, _⟩ | ⟨_, _, t, rfl, e⟩ | ⟨_, z1, z2, _⟩ | ⟨_, z1, z2, _⟩
            · exact absurd b z
            · exact hR' _ _ ⟨_, mv_same s', .inl ⟨2, .inr rfl, t, t2, rfl, rfl, s' _ _ e, e2, L11.G.mono s'⟩, rfl⟩
            all_goals exact absurd ⟨z1, memk.mpr z2⟩ b2
          · rcases due with ⟨z, _⟩ | ⟨_, z, _⟩ | ⟨_, _, _, _, rfl⟩ | ⟨_, _, _, z, _⟩
            · exact absurd b z
            · exact absurd ⟨b1, memk.mp b2⟩ z
            · exact hR' _ _ ⟨_, mv_g sg, .inr (.inl ⟨rfl, rfl, G'⟩), rfl⟩
            · exact absurd b3 z
          · rcases due with ⟨z, _⟩ | ⟨_, z, _⟩ | ⟨_, _, _, z, _⟩ | ⟨_, _, _, _, t, ds2, rfl, lt, as2, ln2, mm2⟩
            · exact absurd b z
            · exact absurd ⟨b1, memk.mp b2⟩ z
            · exact absurd z b3
            · have e : ds = ds2 := asc_eq (asc_strict as (pm.nodup_iff.mpr nd)) as2 fun y => by
                rw [pm.mem_iff, mm y, mm2 y]
                exact ⟨reach_congr L.mem, reach_congr fun y => (L.mem y).symm⟩
              subst e
              have m : Mv g d H11 H' := mv_d sd
              have lost0 : lost = false := by
                cases lost with
                | false => rfl
                | true => exact absurd b (by unfold stateS; rw [if_pos rfl]; decide +kernel)
              obtain ⟨ts, et, Dt'⟩ := id lt
              refine hR' _ _ ⟨_, m, .inr (.inr ⟨t, q, ds, op, rfl, rfl, fun z => ?_, (s10.trans s11).free nq, lost0, m.ls L11.G lt, lq, ln2, pm, nd, fun y hy => ?_, G'⟩), rfl⟩
              · rw [z] at nq; rw [et] at nq; cases nq
              · have r := (mm y).mp hy
                exact ⟨r.inF b1, r.new b2⟩
        rintro σ H12 ⟨z, m12, fnd, rfl⟩
        refine seq_mid (fun σ H13 => H13 = H12 ∧ σ = s17 (.ref a) (.int h) (.int w) (.ref p) (.ref gl) (.ref g) (.ref kq) (.str (stateS h w st kn lost)) (.ref vl) (some (.int (0 + i))) (some (.int ck)) (some v) o4 o5 (some u) (some z) o8) (fun R' hR' => ?_) ?_
        · rcases fnd with ⟨n, hn, t, t2, rfl, rfl, e1, e2, _⟩ | ⟨rfl, rfl, _⟩ | ⟨t, q, ds, op, rfl, rfl, _, _, _, lt, lq, ln, _⟩
          · refine ⟨_, rfl, _, rfl, .inr ⟨.lst [.int n, .bl true], .lst [.int n, .bl true], rfl, .lst (SqL.of e2) (.cons (.int _) (.cons (.bl _) .nil)), .lst (SqL.of e1) (.cons (.int _) (.cons (.bl _) .nil)), shD_refl _, Nat.le_of_ble_eq_true rfl, _, rfl, ?_⟩⟩
            show if (!eqD _ _) = true then _ else _
            rw [eqD_refl]
            exact iteF (hR' _ _ ⟨rfl, rfl⟩)
          · exact ⟨_, rfl, _, rfl, .inl ⟨rfl, _, rfl, iteF (hR' _ _ ⟨rfl, rfl⟩)⟩⟩
          · refine ⟨_, rfl, _, rfl, .inr ⟨_, _, rfl, lq.den, lt.den, shD_refl _, dep_cells ds, _, rfl, ?_⟩⟩
            show if (!eqD _ _) = true then _ else _
            rw [eqD_refl]
            exact iteF (hR' _ _ ⟨rfl, rfl⟩)
        rintro σ H12 ⟨rfl, rfl⟩
        refine seq_mid (fun σ H13 => ∃ (kq : Addr) (kn kn' : List Cell) (lost : Bool), LSt K Z.Game Z.View H6 H13 g d vl fl hh kq h w st kn kn' lost i ∧ σ = s17 (.ref a) (.int h) (.int w) (.ref p) (.ref gl) (.ref g) (.ref kq) (.str (stateS h w st kn lost)) (.ref vl) (some (.int (0 + i))) (some (.int ck)) (some v) o4 o5 (some u) (some z) o8) (fun R' hR' => ?_) ?_
        · obtain ⟨ws, evs, lvs, hvs⟩ := L11.vs
          have keepL : ∀ (lost2 : Bool), GameAt K Z.Game Z.View H12 g h w st kn lost2 fl hh d → LSt K Z.Game Z.View H6 H12 g d vl fl hh kq h w st kn kn' lost2 i := fun lost2 G2 =>
            ⟨L11.mv.trans m12, G2, m12.ls L11.G L11.lk, L.nk, ⟨ws, m12.lst L11.G evs, lvs, fun u hu => m12.vw L11.G (hvs u hu)⟩, L.mem, L.len, L.nd, L.inn⟩
          rcases fnd with ⟨n, hn, t, t2, rfl, rfl, e1, e2, G2⟩ | ⟨rfl, rfl, G2⟩ | ⟨t, q, ds, op, rfl, rfl, nqt, nq, lost0, lt, lq, ln, pm, nd, fr, G2⟩
          · have L2 := keepL lost G2
            have dn : ∀ {H : Hp} {x : Addr} {n : Int}, H x = some (.lst [.int n, .bl true]) → Den K H (.ref x) (.lst [.int n, .bl true]) := fun e => .lst (SqL.of e) (.cons (.int _) (.cons (.bl _) .nil))
            refine ⟨_, rfl, rfl, _, rfl, iteF ?_⟩
            refine ⟨_, rfl, sz rfl, fun t3 n3 => .inr ⟨.lst [.int n, .bl true], .lst [.int 1, .bl true], rfl, dn ((Same.put n3) _ _ e1), dn upd_same, rfl, Nat.le_of_ble_eq_true rfl, _, rfl, ?_⟩⟩
            have s3 := Same.put (o := .lst [V.int 1, V.bl true]) n3
            rcases hn with rfl | rfl
            · exact iteF (iteF (hR' _ _ ⟨kq, kn, kn', lost, L2.mono s3, rfl⟩))
            · refine iteT ?_
              refine ⟨_, rfl, sz rfl, fun t4 n4 => .inr ⟨.lst [.int 2, .bl true], .lst [.int 2, .bl true], rfl, dn ((Same.put n4) _ _ (s3 _ _ e1)), dn upd_same, rfl, Nat.le_of_ble_eq_true rfl, _, rfl, ?_⟩⟩
              have s4' := Same.put (o := .lst [V.int 2, V.bl true]) n4
              exact iteF (hR' _ _ ⟨kq, kn, kn', lost, L2.mono (s3.trans s4'), rfl⟩)
          · have es : stateS h w st kn true = "lost" := by unfold stateS; rw [if_pos rfl]
            refine ⟨_, rfl, rfl, _, rfl, iteT (hR' _ _ ⟨kq, kn, kn', true, keepL true G2, ?_⟩)⟩
            rw [es]; rfl
          · subst lost0
            have dn : ∀ {H : Hp} {x : Addr} {n : Int}, H x = some (.lst [.int n, .bl true]) → Den K H (.ref x) (.lst [.int n, .bl true]) := fun e => .lst (SqL.of e) (.cons (.int _) (.cons (.bl _) .nil))
            refine ⟨_, rfl, rfl, _, rfl, iteF ?_⟩
            refine ⟨_, rfl, sz rfl, fun t3 n3 => .inr ⟨.lst (ds.map cellD), .lst [.int 1, .bl true], rfl, (lt.mono (Same.put n3)).den, dn upd_same, sh_told ds 1, dep_cells ds, _, rfl, ?_⟩⟩
            have s3 := Same.put (o := .lst [V.int 1, V.bl true]) n3
            show if (!eqD (.lst (ds.map cellD)) (.lst [.int 1, .bl true])) = true then _ else _
            rw [ne_told]
            refine iteT ?_
            refine ⟨_, rfl, sz rfl, fun t4 n4 => .inr ⟨.lst (ds.map cellD), .lst [.int 2, .bl true], rfl, (lt.mono (s3.and n4)).den, dn upd_same, sh_told ds 2, dep_cells ds, _, rfl, ?_⟩⟩
            have s4' := s3.trans (Same.put (o := .lst [V.int 2, V.bl true]) n4)
            show if (!eqD (.lst (ds.map cellD)) (.lst [.int 2, .bl true])) = true then _ else _
            rw [ne_told]
            refine iteT ?_
            refine seq_mid (fun σ H14 => Same H12 H14 ∧ σ = s17 (.ref a) (.int h) (.int w) (.ref p) (.ref gl) (.ref g) (.ref kq) (.str (stateS h w st kn false)) (.ref vl) (some (.int (0 + i))) (some (.int ck)) (some v) o4 o5 (some (.ref t)) (some (.ref q)) o8) (fun R'' hR'' => ?_) ?_
            · exact ⟨_, rfl, _, rfl, q, _, ds, rfl, lq.mono s4', (lt.mono s4').den, by omega, fun H' s' => ⟨_, rfl, iteF (hR'' _ _ ⟨s4'.trans s', rfl⟩)⟩⟩
            rintro σ H14 ⟨s14, rfl⟩
            obtain ⟨qs, eq14, Dq⟩ := lq.mono s14
            have G14 := G2.mono s14
            have lt14 := lt.mono s14
            have lk14 : Ls K H14 kq (kn'.map cellD) := (m12.ls L11.G L11.lk).mono s14
            have evs14 := s14 _ _ (m12.lst L11.G evs)
            have vs14 : ∀ u ∈ ws, VwOk Z.View g vl H14 u := fun u hu => (mv_same s14).vw G2 (m12.vw L11.G (hvs u hu))
            have mv14 : Mv g d H8 H14 := ((mv_same (s10.trans s11)).trans m12).trans (mv_same s14)
            have nqk : ∀ {x : Addr} {xs : List V}, H8 x = some (.lst xs) → x ≠ q := fun e => ne_of_none e nq
            have nqv : vl ≠ q := by
              obtain ⟨ws8, e8, _⟩ := L.vs
              exact nqk e8
            have nqkq : kq ≠ q := by
              obtain ⟨xs8, e8, _⟩ := L.lk
              exact nqk e8
            have nqh : q ≠ hh := by
              obtain ⟨xs8, e8, _⟩ := L.G.hs
              exact (nqk e8).symm
            refine seq_mid (fun σ H15 => ∃ u9 : V, SameBut q H14 H15 ∧ σ = s17 (.ref a) (.int h) (.int w) (.ref p) (.ref gl) (.ref g) (.ref kq) (.str (stateS h w st kn false)) (.ref vl) (some (.int (0 + i))) (some (.int ck)) (some v) o4 o5 (some (.ref t)) (some (.ref q)) o8) (fun R'' hR'' => ?_) ?_
            · refine ⟨_, rfl, .inl ⟨rfl, _, SqL.of eq14⟩, sz rfl, fun t9 n9 => ?_⟩
              have s9' := Same.put (o := .tup [V.int 9, V.int 9]) n9
              have lqs : qs.length ≤ 100 := by rw [Dq.length, List.length_map]; omega
              exact ⟨q, qs, _, rfl, rfl, s9' _ _ eq14, ltl (by omega), hR'' _ _ ⟨.ref t9, ((s9'.but q).trans (SameBut.refl q _).put), rfl⟩⟩
            rintro σ H15 ⟨_, s15, rfl⟩
            have G15 := game_but G14 s15 eq14 Dq nqh
            have lt15 : Ls K H15 t (ds.map cellD) := s15.ls eq14 nqt.symm lt14
            have lk15 : Ls K H15 kq (kn'.map cellD) := s15.ls eq14 nqkq lk14
            have mv15 : Mv g d H8 H15 := mv14.but s15 nq
            have l36' : kn'.length ≤ 36 := by rw [← L.len]; exact k36
            refine seq_mid (fun σ H16 => ∃ kq2 : Addr, H15 kq2 = none ∧ Same H15 H16 ∧ Ls K H16 kq2 ((kn' ++ ds).map cellD) ∧ σ = s17 (.ref a) (.int h) (.int w) (.ref p) (.ref gl) (.ref g) (.ref kq2) (.str (stateS h w st kn false)) (.ref vl) (some (.int (0 + i))) (some (.int ck)) (some v) o4 o5 (some (.ref t)) (some (.ref q)) o8) (fun R'' hR'' => ?_) ?_
            · exact ⟨_, rfl, _, rfl, rd_cat lk15 lt15 (by rw [List.length_map, List.length_map]; omega) fun r H16 fr => hR'' _ _ ⟨r, fr.new, fr.same, by rw [List.map_append]; exact fr.ls, rfl⟩⟩
            rintro σ H16 ⟨kq2, nk2, s16, lk16, rfl⟩
            have mv16 : Mv g d H8 H16 := mv15.trans (mv_same s16)
            have elen : (kn ++ op).length = (kn' ++ ds).length := by rw [List.length_append, List.length_append, L.len, pm.length_eq]
            have est : stateS h w st (kn' ++ ds) false = stateS h w st (kn ++ op) false := by unfold stateS; rw [elen]
            obtain ⟨ws8, e8, n8, hv8⟩ := L.vs
            have nkv : kq2 ≠ vl := (ne_of_none (mv15.lst L.G e8) nk2).symm
            refine ⟨_, rfl, _, rfl, _, rfl, _, rfl, ?_⟩
            dsimp only [tCons, tC, tNil]
            refine spLState.mk h6 w6 (mv16.ls L.G lpi) lk16 fun H17 s17 => ?_
            rw [est]
            have mv17 := mv16.trans (mv_same (g := g) (d := d) s17)
            refine hR' _ _ ⟨kq2, kn ++ op, kn' ++ ds, false, ⟨L.mv.trans mv17, G15.mono (s16.trans s17), lk16.mono s17, nkv, ⟨ws8, mv17.lst L.G e8, n8, fun u hu => mv17.vw L.G (hv8 u hu)⟩, fun y => ?_, elen, ?_, fun y hy => ?_⟩, rfl⟩
            · rw [List.mem_append, List.mem_append, L.mem y, pm.mem_iff]
            · exact List.nodup_append.mpr ⟨L.nd, nd, fun a ha b hb e => (fr b hb).2 (by rw [← e]; exact ha)⟩
            · rcases List.mem_append.mp hy with z | z
              · exact L.inn y z
              · exact (fr y z).1
        rintro σ H13 ⟨kq, kn, kn', lost, L13, rfl⟩
        obtain ⟨dx13, hg13⟩ := L13.G.ob
        have lp13 : Ls K H13 p (st.map cellD) := L13.mv.ls G6 lp6
        refine seq_mid (fun σ H14 => ∃ x : Addr, H13 x = none ∧ Same H13 H14 ∧ ViewAt Z.View H14 x (shownL h w st kn) w ∧ σ = s17 (.ref a) (.int h) (.int w) (.ref p) (.ref gl) (.ref g) (.ref kq) (.str (stateS h w st kn lost)) (.ref vl) (some (.int (0 + i))) (some (.int ck)) (some v) o4 o5 (some u) (some z) (some (.ref x))) (fun R' hR' => ?_) ?_
        · exact rd_meth0 L13.G (by decide +kernel) (fun _ q => ⟨_, rfl, q⟩) (spGView.mk L13.G fun x H' nx s' vt => hR' _ _ ⟨x, nx, s', vt, rfl⟩)
        rintro σ H14 ⟨x, nx, s14, vt, rfl⟩
        obtain ⟨dx, lx, ex, el⟩ := vt.ob
        have L14 := L13.mono s14
        refine seq_mid (fun σ H15 => Same H14 H15 ∧ σ = s17 (.ref a) (.int h) (.int w) (.ref p) (.ref gl) (.ref g) (.ref kq) (.str (stateS h w st kn lost)) (.ref vl) (some (.int (0 + i))) (some (.int ck)) (some v) o4 o5 (some u) (some z) (some (.ref x))) (fun R' hR' => ?_) ?_
        · refine ⟨_, rfl, x, Z.View, dx, _, _, _, rfl, rfl, ex, T.q_vv, _, rfl, iteF ?_⟩
          refine ⟨_, rfl, x, Z.View, dx, _, _, rfl, ex, T.cl_View, T.n_View_rows, f_rows _ _ _, ?_⟩
          refine ⟨_, rfl, _, rfl, _, rfl, _, rfl, h, w, p, kq, st, kn', rfl, h6, w6, (lp13.mono s14).den, L14.lk.den, fun r H' s' nr er => ?_⟩
          rw [← shown_congr L13.mem] at er
          refine .inr ⟨_, _, rfl, den_txt (s' _ _ el), den_txt er, shD_refl _, dep_lst _, _, rfl, ?_⟩
          show if (!eqD _ _) = true then _ else _
          rw [eqD_refl]
          exact iteF (hR' _ _ ⟨s', rfl⟩)
        rintro σ H15 ⟨s15, rfl⟩
        have L15 := L14.mono s15
        obtain ⟨ws, ew, lw, hw⟩ := L15.vs
        have ex15 := s15 _ _ ex
        have el15 := s15 _ _ el
        refine seq_mid (fun σ H16 => LSt K Z.Game Z.View H6 H16 g d vl fl hh kq h w st kn kn' lost (i + 1) ∧ σ = s17 (.ref a) (.int h) (.int w) (.ref p) (.ref gl) (.ref g) (.ref kq) (.str (stateS h w st kn lost)) (.ref vl) (some (.int (0 + i))) (some (.int ck)) (some v) o4 o5 (some u) (some z) (some (.ref x))) (fun R' hR' => ?_) ?_
        · refine ⟨_, rfl, .inl ⟨rfl, _, SqL.of ew⟩, _, rfl, _, rfl, x, Z.View, dx, _, _, rfl, ex15, T.cl_View, T.n_View_rows, f_rows _ _ _, lx, _, rfl, .inl (SqL.of el15), fun r nr => ⟨sz rfl, fun t nt => ?_⟩⟩
          have sr := Same.put (o := .lst ((shownL h w st kn).map V.str)) nr
          have st' := Same.put (o := .tup [V.ref x, V.ref r]) nt
          have sx := sr.trans st'
          have ew' := sx _ _ ew
          have nlv : lx ≠ vl := by
            intro zz
            rw [zz, ew] at el15
            injection el15 with el15
            injection el15 with el15
            obtain ⟨z0, zt, ez, _⟩ := vt.vw.toRect.head
            rw [ez] at el15
            subst el15
            obtain ⟨_, _, _, _, _, _, _, qq, _⟩ := hw (V.str z0) List.mem_cons_self
            cases qq
          have LX := L15.mono sx
          have hws : ∀ u ∈ ws ++ [V.ref t], VwOk Z.View g vl (upd (upd H15 r (.lst ((shownL h w st kn).map V.str))) t (.tup [V.ref x, V.ref r])) u := fun u' hu' => by
            rcases List.mem_append.mp hu' with q | q
            · exact (mv_same sx).vw L15.G (hw u' q)
            · rw [List.mem_singleton.mp q]
              exact ⟨t, x, dx, lx, r, shownL h w st kn, w, rfl, upd_same, sx _ _ ex15, sx _ _ el15, st' _ _ upd_same, (ne_of_none hg13 nx).symm, nlv, (ne_of_none ew nr).symm⟩
          have sv : SameBut vl (upd (upd H15 r (.lst ((shownL h w st kn).map V.str))) t (.tup [V.ref x, V.ref r])) (upd (upd (upd H15 r (.lst ((shownL h w st kn).map V.str))) t (.tup [V.ref x, V.ref r])) vl (.lst (ws ++ [V.ref t]))) := (SameBut.refl vl _).put
          refine ⟨vl, ws, _, rfl, rfl, ew', ltl (by omega), hR' _ _ ⟨⟨LX.mv.but sv nvl, game_vl LX.G sv ew' (fun u' hu' => (mv_same sx).vw L15.G (hw u' hu')) nvh, sv.ls ew' LX.nk LX.lk, LX.nk, ⟨_, upd_same, by rw [List.length_append, List.length_singleton, lw], fun u' hu' => vw_but sv ew' (hws u' hu')⟩, LX.mem, LX.len, LX.nd, LX.inn⟩, rfl⟩⟩
        rintro σ H16 ⟨L16, rfl⟩
        obtain ⟨dx16, hg16⟩ := L16.G.ob
        obtain ⟨ws, ew, lw, hw⟩ := L16.vs
        refine rd_meth0 L16.G (by decide +kernel) (fun _ q => ⟨_, rfl, q⟩) (spGState.mk L16.G ?_)
        refine ⟨_, rfl, .inl ⟨rfl, _, rfl, ?_⟩⟩
        rw [decide_eq_true rfl]
        refine iteF ?_
        refine ⟨_, rfl, vl, rfl, ⟨_, SqL.of ew⟩, compP_list (K := K) (xs := ws) (fun j ys H17 => Same H16 H17 ∧ ys = List.replicate j (V.bl true)) (small (by omega)) (fun j ys H17 _ r => SqL.of (r.1 _ _ ew)) (fun j ys H17 _ r => by rw [r.2, List.length_replicate]; exact Nat.le_refl _) ⟨Same.refl _, rfl⟩ (fun j u' ys H17 p1 q1 hj r G hG => ?_) (fun ys H17 r => ?_)⟩
        · obtain ⟨s17, rfl⟩ := r
          obtain ⟨t, x, dx, l, r, zs, wd, rfl, e2, e3, e4, e5, _⟩ := hw u' (List.mem_of_getElem? hj)
          refine ⟨t, _, rfl, SqT.of (s17 _ _ e2), rfl, _, _, rfl, _, _, rfl, rfl, _, _, rfl, ?_⟩
          refine tyes ⟨_, rfl, x, Z.View, dx, _, _, rfl, s17 _ _ e3, T.cl_View, T.n_View_rows, f_rows _ _ _, _, rfl, .inr ⟨_, _, rfl, den_txt (s17 _ _ e4), den_txt (s17 _ _ e5), shD_refl _, dep_lst _, ?_⟩⟩
          show G (_ ++ [.bl (eqD _ _)]) _
          rw [eqD_refl]
          exact hG _ _ ⟨s17, by rw [List.replicate_succ']⟩
        · obtain ⟨s17, rfl⟩ := r
          intro p1 hp1
          refine ⟨p1, List.replicate ws.length true, rfl, SqL.of (by rw [upd_same, List.map_replicate]), _, rfl, ?_⟩
          have e : (List.replicate ws.length true).all id = true := by simp
          rw [e]
          exact iteF ⟨kq, kn, kn', lost, _, _, _, _, _, _, _, _, L16.mono (s17.and hp1), rfl⟩
      · obtain ⟨kq, kn, kn', lost, o1, o2, o3, o4, o5, o6, o7, o8, L, rfl⟩ := hx
        exact hR _ _ ⟨kq, kn, kn', lost, _, o1, o2, o3, o4, o5, o6, o7, o8, L, rfl⟩
    rintro σ H8 ⟨kq, kn, kn', lost, n, o1, o2, o3, o4, o5, o6, o7, o8, L, rfl⟩
    obtain ⟨dx8, hg8⟩ := L.G.ob
    refine rd_meth0 L.G (by decide +kernel) (fun _ q => ⟨_, rfl, q⟩) (spGState.mk L.G ?_)
    refine ⟨_, rfl, .inl ⟨rfl, ?_⟩⟩
    rw [decide_eq_true rfl]; exact hq _
end
end My
set_option Elab.async false
set_option linter.all false
set_option maxRecDepth 100000
set_option maxHeartbeats 4000000
namespace My
open PySem L2
theorem all_mk {l : PySem.W.OpenLaw} {w : World} {K : PySem.W.Frag} {h : Heap} {mg : Str → Option Value} {fa : Addr} (X : K.In h) (G : h.Ns mainGlobals mg) (hfa : mg "law" = some (.ref fa))
    {Z_FieldError : Addr}
    {Z_BadView : Addr}
    {Z_BadLaying : Addr}
    {Z_NoCell : Addr}
    {Z_Over : Addr}
    {Z_View : Addr}
    {f_View___init__ : Addr} {od_View___init__ an_View___init__ : Option Addr} {sl_View___init__ : Array (Option Value)} {oc_View___init__ kV_View___init__ dc_View___init__ pm_View___init__ cd_View___init__ ct_View___init__ : Value}
    {Z_Game : Addr}
    {f_Game___init__ : Addr} {od_Game___init__ an_Game___init__ : Option Addr} {sl_Game___init__ : Array (Option Value)} {oc_Game___init__ kV_Game___init__ dc_Game___init__ pm_Game___init__ cd_Game___init__ ct_Game___init__ : Value}
    {f_Game_uncover : Addr} {od_Game_uncover an_Game_uncover : Option Addr} {sl_Game_uncover : Array (Option Value)} {oc_Game_uncover kV_Game_uncover dc_Game_uncover pm_Game_uncover cd_Game_uncover ct_Game_uncover : Value}
    {f_Game_view : Addr} {od_Game_view an_Game_view : Option Addr} {sl_Game_view : Array (Option Value)} {oc_Game_view kV_Game_view dc_Game_view pm_Game_view cd_Game_view ct_Game_view : Value}
    {f_Game_state : Addr} {od_Game_state an_Game_state : Option Addr} {sl_Game_state : Array (Option Value)} {oc_Game_state kV_Game_state dc_Game_state pm_Game_state cd_Game_state ct_Game_state : Value}
    {t_MOST_ROWS : Tok}
    {t_MOST_COLUMNS : Tok}
    {t_CLOSED_SIGN : Tok}
    {t_SIGNS : Tok}
    {f__law_cell_at : Addr} {od__law_cell_at an__law_cell_at : Option Addr} {sl__law_cell_at : Array (Option Value)} {oc__law_cell_at kV__law_cell_at dc__law_cell_at pm__law_cell_at cd__law_cell_at ct__law_cell_at : Value}
    {f__law_mix : Addr} {od__law_mix an__law_mix : Option Addr} {sl__law_mix : Array (Option Value)} {oc__law_mix kV__law_mix dc__law_mix pm__law_mix cd__law_mix ct__law_mix : Value}
    {f__law_whole : Addr} {od__law_whole an__law_whole : Option Addr} {sl__law_whole : Array (Option Value)} {oc__law_whole kV__law_whole dc__law_whole pm__law_whole cd__law_whole ct__law_whole : Value}
    {f__law_near : Addr} {od__law_near an__law_near : Option Addr} {sl__law_near : Array (Option Value)} {oc__law_near kV__law_near dc__law_near pm__law_near cd__law_near ct__law_near : Value}
    {f__law_figure : Addr} {od__law_figure an__law_figure : Option Addr} {sl__law_figure : Array (Option Value)} {oc__law_figure kV__law_figure dc__law_figure pm__law_figure cd__law_figure ct__law_figure : Value}
    {f__law_field_by : Addr} {od__law_field_by an__law_field_by : Option Addr} {sl__law_field_by : Array (Option Value)} {oc__law_field_by kV__law_field_by dc__law_field_by pm__law_field_by cd__law_field_by ct__law_field_by : Value}
    {f__law_shown : Addr} {od__law_shown an__law_shown : Option Addr} {sl__law_shown : Array (Option Value)} {oc__law_shown kV__law_shown dc__law_shown pm__law_shown cd__law_shown ct__law_shown : Value}
    {f__law_opened : Addr} {od__law_opened an__law_opened : Option Addr} {sl__law_opened : Array (Option Value)} {oc__law_opened kV__law_opened dc__law_opened pm__law_opened cd__law_opened ct__law_opened : Value}
    {f_is_row : Addr} {od_is_row an_is_row : Option Addr} {sl_is_row : Array (Option Value)} {oc_is_row kV_is_row dc_is_row pm_is_row cd_is_row ct_is_row : Value}
    {f_is_size : Addr} {od_is_size an_is_size : Option Addr} {sl_is_size : Array (Option Value)} {oc_is_size kV_is_size dc_is_size pm_is_size cd_is_size ct_is_size : Value}
    {f_is_view : Addr} {od_is_view an_is_view : Option Addr} {sl_is_view : Array (Option Value)} {oc_is_view kV_is_view dc_is_view pm_is_view cd_is_view ct_is_view : Value}
    {f_has_cell : Addr} {od_has_cell an_has_cell : Option Addr} {sl_has_cell : Array (Option Value)} {oc_has_cell kV_has_cell dc_has_cell pm_has_cell cd_has_cell ct_has_cell : Value}
    {f_is_closed : Addr} {od_is_closed an_is_closed : Option Addr} {sl_is_closed : Array (Option Value)} {oc_is_closed kV_is_closed dc_is_closed pm_is_closed cd_is_closed ct_is_closed : Value}
    {f_near : Addr} {od_near an_near : Option Addr} {sl_near : Array (Option Value)} {oc_near kV_near dc_near pm_near cd_near ct_near : Value}
    {f__law_places : Addr} {od__law_places an__law_places : Option Addr} {sl__law_places : Array (Option Value)} {oc__law_places kV__law_places dc__law_places pm__law_places cd__law_places ct__law_places : Value}
    {f_is_laying : Addr} {od_is_laying an_is_laying : Option Addr} {sl_is_laying : Array (Option Value)} {oc_is_laying kV_is_laying dc_is_laying pm_is_laying cd_is_laying ct_is_laying : Value}
    {f_stones_near : Addr} {od_stones_near an_stones_near : Option Addr} {sl_stones_near : Array (Option Value)} {oc_stones_near kV_stones_near dc_stones_near pm_stones_near cd_stones_near ct_stones_near : Value}
    {f__law_state : Addr} {od__law_state an__law_state : Option Addr} {sl__law_state : Array (Option Value)} {oc__law_state kV__law_state dc__law_state pm__law_state cd__law_state ct__law_state : Value}
    {f__law_due : Addr} {od__law_due an__law_due : Option Addr} {sl__law_due : Array (Option Value)} {oc__law_due kV__law_due dc__law_due pm__law_due cd__law_due ct__law_due : Value}
    {f__law_met : Addr} {od__law_met an__law_met : Option Addr} {sl__law_met : Array (Option Value)} {oc__law_met kV__law_met dc__law_met pm__law_met cd__law_met ct__law_met : Value}
    {f_law : Addr} {od_law an_law : Option Addr} {sl_law : Array (Option Value)} {oc_law kV_law dc_law pm_law cd_law ct_law : Value}
    (a_FieldError : PySem.W.nsIn K mainGlobals "FieldError" = some (some (.ref Z_FieldError)))
    (x_FieldError : PySem.W.excIn K Z_FieldError [.type "ValueError", .type "Exception", .type "BaseException", .type "object"] "ValueError.__new__" = true)
    (a_BadView : PySem.W.nsIn K mainGlobals "BadView" = some (some (.ref Z_BadView)))
    (x_BadView : PySem.W.excIn K Z_BadView [.type "ValueError", .type "Exception", .type "BaseException", .type "object"] "ValueError.__new__" = true)
    (a_BadLaying : PySem.W.nsIn K mainGlobals "BadLaying" = some (some (.ref Z_BadLaying)))
    (x_BadLaying : PySem.W.excIn K Z_BadLaying [.type "ValueError", .type "Exception", .type "BaseException", .type "object"] "ValueError.__new__" = true)
    (a_NoCell : PySem.W.nsIn K mainGlobals "NoCell" = some (some (.ref Z_NoCell)))
    (x_NoCell : PySem.W.excIn K Z_NoCell [.type "ValueError", .type "Exception", .type "BaseException", .type "object"] "ValueError.__new__" = true)
    (a_Over : PySem.W.nsIn K mainGlobals "Over" = some (some (.ref Z_Over)))
    (x_Over : PySem.W.excIn K Z_Over [.type "ValueError", .type "Exception", .type "BaseException", .type "object"] "ValueError.__new__" = true)
    (a_View : PySem.W.nsIn K mainGlobals "View" = some (some (.ref Z_View)))
    (a_View___init__ : PySem.W.findIn K (.ref Z_View) "__init__" = some (some (.ref f_View___init__)))
    (l_View___init__ : K.lookup f_View___init__ = some ⟨oc_View___init__, od_View___init__, .func (PySem.W.fnOf "__init__" "View.__init__" (defArgs s_View___init__) (defBody s_View___init__) (defScope s_View___init__) .none kV_View___init__ dc_View___init__ pm_View___init__ an_View___init__ cd_View___init__ ct_View___init__), sl_View___init__⟩)
    (c_View___init__ : PySem.W.codeIn K cd_View___init__ "View.__init__" = true)
    (k_View___init__ : PySem.W.keepIn K (.ref f_View___init__) = true)
    (i_View___init__ : PySem.W.isFn K (.ref f_View___init__) = true)
    (pg_View : PySem.W.plainGet K Z_View Str.empty = true)
    (hd_View : PySem.W.hasDictIn K Z_View = true)
    (po_View : PySem.W.plainOver K Z_View = true)
    (sa_View : PySem.W.findIn K (.ref Z_View) "__setattr__" = some (some (.builtin "object.__setattr__")))
    (mk_View : PySem.W.makesIn K Z_View = true)
    (kc_View : PySem.W.keepIn K (.ref Z_View) = true)
    (n_View_rows : PySem.W.findIn K (.ref Z_View) "rows" = some none)
    (n_View_height : PySem.W.findIn K (.ref Z_View) "height" = some none)
    (n_View_width : PySem.W.findIn K (.ref Z_View) "width" = some none)
    (a_Game : PySem.W.nsIn K mainGlobals "Game" = some (some (.ref Z_Game)))
    (a_Game___init__ : PySem.W.findIn K (.ref Z_Game) "__init__" = some (some (.ref f_Game___init__)))
    (l_Game___init__ : K.lookup f_Game___init__ = some ⟨oc_Game___init__, od_Game___init__, .func (PySem.W.fnOf "__init__" "Game.__init__" (defArgs s_Game___init__) (defBody s_Game___init__) (defScope s_Game___init__) .none kV_Game___init__ dc_Game___init__ pm_Game___init__ an_Game___init__ cd_Game___init__ ct_Game___init__), sl_Game___init__⟩)
    (c_Game___init__ : PySem.W.codeIn K cd_Game___init__ "Game.__init__" = true)
    (k_Game___init__ : PySem.W.keepIn K (.ref f_Game___init__) = true)
    (i_Game___init__ : PySem.W.isFn K (.ref f_Game___init__) = true)
    (a_Game_uncover : PySem.W.findIn K (.ref Z_Game) "uncover" = some (some (.ref f_Game_uncover)))
    (l_Game_uncover : K.lookup f_Game_uncover = some ⟨oc_Game_uncover, od_Game_uncover, .func (PySem.W.fnOf "uncover" "Game.uncover" (defArgs s_Game_uncover) (defBody s_Game_uncover) (defScope s_Game_uncover) .none kV_Game_uncover dc_Game_uncover pm_Game_uncover an_Game_uncover cd_Game_uncover ct_Game_uncover), sl_Game_uncover⟩)
    (c_Game_uncover : PySem.W.codeIn K cd_Game_uncover "Game.uncover" = true)
    (k_Game_uncover : PySem.W.keepIn K (.ref f_Game_uncover) = true)
    (i_Game_uncover : PySem.W.isFn K (.ref f_Game_uncover) = true)
    (a_Game_view : PySem.W.findIn K (.ref Z_Game) "view" = some (some (.ref f_Game_view)))
    (l_Game_view : K.lookup f_Game_view = some ⟨oc_Game_view, od_Game_view, .func (PySem.W.fnOf "view" "Game.view" (defArgs s_Game_view) (defBody s_Game_view) (defScope s_Game_view) .none kV_Game_view dc_Game_view pm_Game_view an_Game_view cd_Game_view ct_Game_view), sl_Game_view⟩)
    (c_Game_view : PySem.W.codeIn K cd_Game_view "Game.view" = true)
    (k_Game_view : PySem.W.keepIn K (.ref f_Game_view) = true)
    (i_Game_view : PySem.W.isFn K (.ref f_Game_view) = true)
    (a_Game_state : PySem.W.findIn K (.ref Z_Game) "state" = some (some (.ref f_Game_state)))
    (l_Game_state : K.lookup f_Game_state = some ⟨oc_Game_state, od_Game_state, .func (PySem.W.fnOf "state" "Game.state" (defArgs s_Game_state) (defBody s_Game_state) (defScope s_Game_state) .none kV_Game_state dc_Game_state pm_Game_state an_Game_state cd_Game_state ct_Game_state), sl_Game_state⟩)
    (c_Game_state : PySem.W.codeIn K cd_Game_state "Game.state" = true)
    (k_Game_state : PySem.W.keepIn K (.ref f_Game_state) = true)
    (i_Game_state : PySem.W.isFn K (.ref f_Game_state) = true)
    (pg_Game : PySem.W.plainGet K Z_Game Str.empty = true)
    (hd_Game : PySem.W.hasDictIn K Z_Game = true)
    (po_Game : PySem.W.plainOver K Z_Game = true)
    (sa_Game : PySem.W.findIn K (.ref Z_Game) "__setattr__" = some (some (.builtin "object.__setattr__")))
    (mk_Game : PySem.W.makesIn K Z_Game = true)
    (kc_Game : PySem.W.keepIn K (.ref Z_Game) = true)
    (n_Game_field : PySem.W.findIn K (.ref Z_Game) "field" = some none)
    (n_Game_hidden : PySem.W.findIn K (.ref Z_Game) "hidden" = some none)
    (n_Game_figures : PySem.W.findIn K (.ref Z_Game) "figures" = some none)
    (n_Game_lost : PySem.W.findIn K (.ref Z_Game) "lost" = some none)
    (g_MOST_ROWS : PySem.W.nsIn K mainGlobals "MOST_ROWS" = some (some (.int 6 t_MOST_ROWS)))
    (g_MOST_COLUMNS : PySem.W.nsIn K mainGlobals "MOST_COLUMNS" = some (some (.int 6 t_MOST_COLUMNS)))
    (g_CLOSED_SIGN : PySem.W.nsIn K mainGlobals "CLOSED_SIGN" = some (some (.str "#" t_CLOSED_SIGN)))
    (g_SIGNS : PySem.W.nsIn K mainGlobals "SIGNS" = some (some (.str "#012345678" t_SIGNS)))
    (z_all : PySem.W.nsIn K mainGlobals "all" = some none)
    (z_bool : PySem.W.nsIn K mainGlobals "bool" = some none)
    (z_int : PySem.W.nsIn K mainGlobals "int" = some none)
    (z_isinstance : PySem.W.nsIn K mainGlobals "isinstance" = some none)
    (z_len : PySem.W.nsIn K mainGlobals "len" = some none)
    (z_list : PySem.W.nsIn K mainGlobals "list" = some none)
    (z_max : PySem.W.nsIn K mainGlobals "max" = some none)
    (z_min : PySem.W.nsIn K mainGlobals "min" = some none)
    (z_range : PySem.W.nsIn K mainGlobals "range" = some none)
    (z_sorted : PySem.W.nsIn K mainGlobals "sorted" = some none)
    (z_str : PySem.W.nsIn K mainGlobals "str" = some none)
    (z_tuple : PySem.W.nsIn K mainGlobals "tuple" = some none)
    (q_ii : PySem.W.kitOne K (.type "int") (.type "int") = some true)
    (q_ib : PySem.W.kitOne K (.type "int") (.type "bool") = some false)
    (q_ll : PySem.W.kitOne K (.type "list") (.type "list") = some true)
    (q_tt : PySem.W.kitOne K (.type "tuple") (.type "tuple") = some true)
    (q_of : PySem.W.kitOne K (.ref Z_Over) (.ref Z_FieldError) = some true)
    (q_nf : PySem.W.kitOne K (.ref Z_NoCell) (.ref Z_FieldError) = some true)
    (q_no : PySem.W.kitOne K (.ref Z_NoCell) (.ref Z_Over) = some false)
    (q_vv : PySem.W.kitOne K (.ref Z_View) (.ref Z_View) = some true)
    (a__law_cell_at : PySem.W.nsIn K mainGlobals "_law_cell_at" = some (some (.ref f__law_cell_at)))
    (l__law_cell_at : K.lookup f__law_cell_at = some ⟨oc__law_cell_at, od__law_cell_at, .func (PySem.W.fnOf "_law_cell_at" "_law_cell_at" (defArgs s__law_cell_at) (defBody s__law_cell_at) (defScope s__law_cell_at) .none kV__law_cell_at dc__law_cell_at pm__law_cell_at an__law_cell_at cd__law_cell_at ct__law_cell_at), sl__law_cell_at⟩)
    (c__law_cell_at : PySem.W.codeIn K cd__law_cell_at "_law_cell_at" = true)
    (k__law_cell_at : PySem.W.keepIn K (.ref f__law_cell_at) = true)
    (a__law_mix : PySem.W.nsIn K mainGlobals "_law_mix" = some (some (.ref f__law_mix)))
    (l__law_mix : K.lookup f__law_mix = some ⟨oc__law_mix, od__law_mix, .func (PySem.W.fnOf "_law_mix" "_law_mix" (defArgs s__law_mix) (defBody s__law_mix) (defScope s__law_mix) .none kV__law_mix dc__law_mix pm__law_mix an__law_mix cd__law_mix ct__law_mix), sl__law_mix⟩)
    (c__law_mix : PySem.W.codeIn K cd__law_mix "_law_mix" = true)
    (k__law_mix : PySem.W.keepIn K (.ref f__law_mix) = true)
    (a__law_whole : PySem.W.nsIn K mainGlobals "_law_whole" = some (some (.ref f__law_whole)))
    (l__law_whole : K.lookup f__law_whole = some ⟨oc__law_whole, od__law_whole, .func (PySem.W.fnOf "_law_whole" "_law_whole" (defArgs s__law_whole) (defBody s__law_whole) (defScope s__law_whole) .none kV__law_whole dc__law_whole pm__law_whole an__law_whole cd__law_whole ct__law_whole), sl__law_whole⟩)
    (c__law_whole : PySem.W.codeIn K cd__law_whole "_law_whole" = true)
    (k__law_whole : PySem.W.keepIn K (.ref f__law_whole) = true)
    (a__law_near : PySem.W.nsIn K mainGlobals "_law_near" = some (some (.ref f__law_near)))
    (l__law_near : K.lookup f__law_near = some ⟨oc__law_near, od__law_near, .func (PySem.W.fnOf "_law_near" "_law_near" (defArgs s__law_near) (defBody s__law_near) (defScope s__law_near) .none kV__law_near dc__law_near pm__law_near an__law_near cd__law_near ct__law_near), sl__law_near⟩)
    (c__law_near : PySem.W.codeIn K cd__law_near "_law_near" = true)
    (k__law_near : PySem.W.keepIn K (.ref f__law_near) = true)
    (a__law_figure : PySem.W.nsIn K mainGlobals "_law_figure" = some (some (.ref f__law_figure)))
    (l__law_figure : K.lookup f__law_figure = some ⟨oc__law_figure, od__law_figure, .func (PySem.W.fnOf "_law_figure" "_law_figure" (defArgs s__law_figure) (defBody s__law_figure) (defScope s__law_figure) .none kV__law_figure dc__law_figure pm__law_figure an__law_figure cd__law_figure ct__law_figure), sl__law_figure⟩)
    (c__law_figure : PySem.W.codeIn K cd__law_figure "_law_figure" = true)
    (k__law_figure : PySem.W.keepIn K (.ref f__law_figure) = true)
    (a__law_field_by : PySem.W.nsIn K mainGlobals "_law_field_by" = some (some (.ref f__law_field_by)))
    (l__law_field_by : K.lookup f__law_field_by = some ⟨oc__law_field_by, od__law_field_by, .func (PySem.W.fnOf "_law_field_by" "_law_field_by" (defArgs s__law_field_by) (defBody s__law_field_by) (defScope s__law_field_by) .none kV__law_field_by dc__law_field_by pm__law_field_by an__law_field_by cd__law_field_by ct__law_field_by), sl__law_field_by⟩)
    (c__law_field_by : PySem.W.codeIn K cd__law_field_by "_law_field_by" = true)
    (k__law_field_by : PySem.W.keepIn K (.ref f__law_field_by) = true)
    (a__law_shown : PySem.W.nsIn K mainGlobals "_law_shown" = some (some (.ref f__law_shown)))
    (l__law_shown : K.lookup f__law_shown = some ⟨oc__law_shown, od__law_shown, .func (PySem.W.fnOf "_law_shown" "_law_shown" (defArgs s__law_shown) (defBody s__law_shown) (defScope s__law_shown) .none kV__law_shown dc__law_shown pm__law_shown an__law_shown cd__law_shown ct__law_shown), sl__law_shown⟩)
    (c__law_shown : PySem.W.codeIn K cd__law_shown "_law_shown" = true)
    (k__law_shown : PySem.W.keepIn K (.ref f__law_shown) = true)
    (a__law_opened : PySem.W.nsIn K mainGlobals "_law_opened" = some (some (.ref f__law_opened)))
    (l__law_opened : K.lookup f__law_opened = some ⟨oc__law_opened, od__law_opened, .func (PySem.W.fnOf "_law_opened" "_law_opened" (defArgs s__law_opened) (defBody s__law_opened) (defScope s__law_opened) .none kV__law_opened dc__law_opened pm__law_opened an__law_opened cd__law_opened ct__law_opened), sl__law_opened⟩)
    (c__law_opened : PySem.W.codeIn K cd__law_opened "_law_opened" = true)
    (k__law_opened : PySem.W.keepIn K (.ref f__law_opened) = true)
    (a_is_row : PySem.W.nsIn K mainGlobals "is_row" = some (some (.ref f_is_row)))
    (l_is_row : K.lookup f_is_row = some ⟨oc_is_row, od_is_row, .func (PySem.W.fnOf "is_row" "is_row" (defArgs s_is_row) (defBody s_is_row) (defScope s_is_row) .none kV_is_row dc_is_row pm_is_row an_is_row cd_is_row ct_is_row), sl_is_row⟩)
    (c_is_row : PySem.W.codeIn K cd_is_row "is_row" = true)
    (k_is_row : PySem.W.keepIn K (.ref f_is_row) = true)
    (a_is_size : PySem.W.nsIn K mainGlobals "is_size" = some (some (.ref f_is_size)))
    (l_is_size : K.lookup f_is_size = some ⟨oc_is_size, od_is_size, .func (PySem.W.fnOf "is_size" "is_size" (defArgs s_is_size) (defBody s_is_size) (defScope s_is_size) .none kV_is_size dc_is_size pm_is_size an_is_size cd_is_size ct_is_size), sl_is_size⟩)
    (c_is_size : PySem.W.codeIn K cd_is_size "is_size" = true)
    (k_is_size : PySem.W.keepIn K (.ref f_is_size) = true)
    (a_is_view : PySem.W.nsIn K mainGlobals "is_view" = some (some (.ref f_is_view)))
    (l_is_view : K.lookup f_is_view = some ⟨oc_is_view, od_is_view, .func (PySem.W.fnOf "is_view" "is_view" (defArgs s_is_view) (defBody s_is_view) (defScope s_is_view) .none kV_is_view dc_is_view pm_is_view an_is_view cd_is_view ct_is_view), sl_is_view⟩)
    (c_is_view : PySem.W.codeIn K cd_is_view "is_view" = true)
    (k_is_view : PySem.W.keepIn K (.ref f_is_view) = true)
    (a_has_cell : PySem.W.nsIn K mainGlobals "has_cell" = some (some (.ref f_has_cell)))
    (l_has_cell : K.lookup f_has_cell = some ⟨oc_has_cell, od_has_cell, .func (PySem.W.fnOf "has_cell" "has_cell" (defArgs s_has_cell) (defBody s_has_cell) (defScope s_has_cell) .none kV_has_cell dc_has_cell pm_has_cell an_has_cell cd_has_cell ct_has_cell), sl_has_cell⟩)
    (c_has_cell : PySem.W.codeIn K cd_has_cell "has_cell" = true)
    (k_has_cell : PySem.W.keepIn K (.ref f_has_cell) = true)
    (a_is_closed : PySem.W.nsIn K mainGlobals "is_closed" = some (some (.ref f_is_closed)))
    (l_is_closed : K.lookup f_is_closed = some ⟨oc_is_closed, od_is_closed, .func (PySem.W.fnOf "is_closed" "is_closed" (defArgs s_is_closed) (defBody s_is_closed) (defScope s_is_closed) .none kV_is_closed dc_is_closed pm_is_closed an_is_closed cd_is_closed ct_is_closed), sl_is_closed⟩)
    (c_is_closed : PySem.W.codeIn K cd_is_closed "is_closed" = true)
    (k_is_closed : PySem.W.keepIn K (.ref f_is_closed) = true)
    (a_near : PySem.W.nsIn K mainGlobals "near" = some (some (.ref f_near)))
    (l_near : K.lookup f_near = some ⟨oc_near, od_near, .func (PySem.W.fnOf "near" "near" (defArgs s_near) (defBody s_near) (defScope s_near) .none kV_near dc_near pm_near an_near cd_near ct_near), sl_near⟩)
    (c_near : PySem.W.codeIn K cd_near "near" = true)
    (k_near : PySem.W.keepIn K (.ref f_near) = true)
    (a__law_places : PySem.W.nsIn K mainGlobals "_law_places" = some (some (.ref f__law_places)))
    (l__law_places : K.lookup f__law_places = some ⟨oc__law_places, od__law_places, .func (PySem.W.fnOf "_law_places" "_law_places" (defArgs s__law_places) (defBody s__law_places) (defScope s__law_places) .none kV__law_places dc__law_places pm__law_places an__law_places cd__law_places ct__law_places), sl__law_places⟩)
    (c__law_places : PySem.W.codeIn K cd__law_places "_law_places" = true)
    (k__law_places : PySem.W.keepIn K (.ref f__law_places) = true)
    (a_is_laying : PySem.W.nsIn K mainGlobals "is_laying" = some (some (.ref f_is_laying)))
    (l_is_laying : K.lookup f_is_laying = some ⟨oc_is_laying, od_is_laying, .func (PySem.W.fnOf "is_laying" "is_laying" (defArgs s_is_laying) (defBody s_is_laying) (defScope s_is_laying) .none kV_is_laying dc_is_laying pm_is_laying an_is_laying cd_is_laying ct_is_laying), sl_is_laying⟩)
    (c_is_laying : PySem.W.codeIn K cd_is_laying "is_laying" = true)
    (k_is_laying : PySem.W.keepIn K (.ref f_is_laying) = true)
    (a_stones_near : PySem.W.nsIn K mainGlobals "stones_near" = some (some (.ref f_stones_near)))
    (l_stones_near : K.lookup f_stones_near = some ⟨oc_stones_near, od_stones_near, .func (PySem.W.fnOf "stones_near" "stones_near" (defArgs s_stones_near) (defBody s_stones_near) (defScope s_stones_near) .none kV_stones_near dc_stones_near pm_stones_near an_stones_near cd_stones_near ct_stones_near), sl_stones_near⟩)
    (c_stones_near : PySem.W.codeIn K cd_stones_near "stones_near" = true)
    (k_stones_near : PySem.W.keepIn K (.ref f_stones_near) = true)
    (a__law_state : PySem.W.nsIn K mainGlobals "_law_state" = some (some (.ref f__law_state)))
    (l__law_state : K.lookup f__law_state = some ⟨oc__law_state, od__law_state, .func (PySem.W.fnOf "_law_state" "_law_state" (defArgs s__law_state) (defBody s__law_state) (defScope s__law_state) .none kV__law_state dc__law_state pm__law_state an__law_state cd__law_state ct__law_state), sl__law_state⟩)
    (c__law_state : PySem.W.codeIn K cd__law_state "_law_state" = true)
    (k__law_state : PySem.W.keepIn K (.ref f__law_state) = true)
    (a__law_due : PySem.W.nsIn K mainGlobals "_law_due" = some (some (.ref f__law_due)))
    (l__law_due : K.lookup f__law_due = some ⟨oc__law_due, od__law_due, .func (PySem.W.fnOf "_law_due" "_law_due" (defArgs s__law_due) (defBody s__law_due) (defScope s__law_due) .none kV__law_due dc__law_due pm__law_due an__law_due cd__law_due ct__law_due), sl__law_due⟩)
    (c__law_due : PySem.W.codeIn K cd__law_due "_law_due" = true)
    (k__law_due : PySem.W.keepIn K (.ref f__law_due) = true)
    (a__law_met : PySem.W.nsIn K mainGlobals "_law_met" = some (some (.ref f__law_met)))
    (l__law_met : K.lookup f__law_met = some ⟨oc__law_met, od__law_met, .func (PySem.W.fnOf "_law_met" "_law_met" (defArgs s__law_met) (defBody s__law_met) (defScope s__law_met) .none kV__law_met dc__law_met pm__law_met an__law_met cd__law_met ct__law_met), sl__law_met⟩)
    (c__law_met : PySem.W.codeIn K cd__law_met "_law_met" = true)
    (k__law_met : PySem.W.keepIn K (.ref f__law_met) = true)
    (a_law : PySem.W.nsIn K mainGlobals "law" = some (some (.ref f_law)))
    (l_law : K.lookup f_law = some ⟨oc_law, od_law, .func (PySem.W.fnOf "law" "law" (defArgs s_law) (defBody s_law) (defScope s_law) .none kV_law dc_law pm_law an_law cd_law ct_law), sl_law⟩)
    (c_law : PySem.W.codeIn K cd_law "law" = true)
    (k_law : PySem.W.keepIn K (.ref f_law) = true) :
    ∃ fd : FuncData, (∀ (s : Shared) (v : Value), BindsTo s fd ⟨[v], []⟩ [("script", v)]) ∧ ∀ base : Heap, K.In base → base.Ns mainGlobals mg → FnOk l.prog w K mg base (CXE l.prog w) 7 fa fd ["script"] (spLaw K) := by
  have e := hfa.symm.trans (PySem.W.mg_of X G a_law)
  cases e
  have F_View___init__ := fun_mk (st := s_View___init__) l_View___init__ c_View___init__ k_View___init__
  have b_View___init__ := F_View___init__.binds (ps := ["self", "rows"]) fun _ _ _ _ _ _ us hl => match us, hl with | [_, _], _ => rfl
  have F_Game___init__ := fun_mk (st := s_Game___init__) l_Game___init__ c_Game___init__ k_Game___init__
  have b_Game___init__ := F_Game___init__.binds (ps := ["self", "height", "width", "stones"]) fun _ _ _ _ _ _ us hl => match us, hl with | [_, _, _, _], _ => rfl
  have F_Game_uncover := fun_mk (st := s_Game_uncover) l_Game_uncover c_Game_uncover k_Game_uncover
  have b_Game_uncover := F_Game_uncover.binds (ps := ["self", "cell"]) fun _ _ _ _ _ _ us hl => match us, hl with | [_, _], _ => rfl
  have F_Game_view := fun_mk (st := s_Game_view) l_Game_view c_Game_view k_Game_view
  have b_Game_view := F_Game_view.binds (ps := ["self"]) fun _ _ _ _ _ _ us hl => match us, hl with | [_], _ => rfl
  have F_Game_state := fun_mk (st := s_Game_state) l_Game_state c_Game_state k_Game_state
  have b_Game_state := F_Game_state.binds (ps := ["self"]) fun _ _ _ _ _ _ us hl => match us, hl with | [_], _ => rfl
  have F__law_cell_at := fun_mk (st := s__law_cell_at) l__law_cell_at c__law_cell_at k__law_cell_at
  have b__law_cell_at := F__law_cell_at.binds (ps := ["script", "k"]) fun _ _ _ _ _ _ us hl => match us, hl with | [_, _], _ => rfl
  have F__law_mix := fun_mk (st := s__law_mix) l__law_mix c__law_mix k__law_mix
  have b__law_mix := F__law_mix.binds (ps := ["cell", "k", "many"]) fun _ _ _ _ _ _ us hl => match us, hl with | [_, _, _], _ => rfl
  have F__law_whole := fun_mk (st := s__law_whole) l__law_whole c__law_whole k__law_whole
  have b__law_whole := F__law_whole.binds (ps := ["found"]) fun _ _ _ _ _ _ us hl => match us, hl with | [_], _ => rfl
  have F__law_near := fun_mk (st := s__law_near) l__law_near c__law_near k__law_near
  have b__law_near := F__law_near.binds (ps := ["height", "width", "cell"]) fun _ _ _ _ _ _ us hl => match us, hl with | [_, _, _], _ => rfl
  have F__law_figure := fun_mk (st := s__law_figure) l__law_figure c__law_figure k__law_figure
  have b__law_figure := F__law_figure.binds (ps := ["height", "width", "stones", "cell"]) fun _ _ _ _ _ _ us hl => match us, hl with | [_, _, _, _], _ => rfl
  have F__law_field_by := fun_mk (st := s__law_field_by) l__law_field_by c__law_field_by k__law_field_by
  have b__law_field_by := F__law_field_by.binds (ps := ["script", "most"]) fun _ _ _ _ _ _ us hl => match us, hl with | [_, _], _ => rfl
  have F__law_shown := fun_mk (st := s__law_shown) l__law_shown c__law_shown k__law_shown
  have b__law_shown := F__law_shown.binds (ps := ["height", "width", "stones", "known"]) fun _ _ _ _ _ _ us hl => match us, hl with | [_, _, _, _], _ => rfl
  have F__law_opened := fun_mk (st := s__law_opened) l__law_opened c__law_opened k__law_opened
  have b__law_opened := F__law_opened.binds (ps := ["height", "width", "stones", "known", "cell"]) fun _ _ _ _ _ _ us hl => match us, hl with | [_, _, _, _, _], _ => rfl
  have F_is_row := fun_mk (st := s_is_row) l_is_row c_is_row k_is_row
  have b_is_row := F_is_row.binds (ps := ["row", "width"]) fun _ _ _ _ _ _ us hl => match us, hl with | [_, _], _ => rfl
  have F_is_size := fun_mk (st := s_is_size) l_is_size c_is_size k_is_size
  have b_is_size := F_is_size.binds (ps := ["height", "width"]) fun _ _ _ _ _ _ us hl => match us, hl with | [_, _], _ => rfl
  have F_is_view := fun_mk (st := s_is_view) l_is_view c_is_view k_is_view
  have b_is_view := F_is_view.binds (ps := ["rows"]) fun _ _ _ _ _ _ us hl => match us, hl with | [_], _ => rfl
  have F_has_cell := fun_mk (st := s_has_cell) l_has_cell c_has_cell k_has_cell
  have b_has_cell := F_has_cell.binds (ps := ["view", "cell"]) fun _ _ _ _ _ _ us hl => match us, hl with | [_, _], _ => rfl
  have F_is_closed := fun_mk (st := s_is_closed) l_is_closed c_is_closed k_is_closed
  have b_is_closed := F_is_closed.binds (ps := ["view", "cell"]) fun _ _ _ _ _ _ us hl => match us, hl with | [_, _], _ => rfl
  have F_near := fun_mk (st := s_near) l_near c_near k_near
  have b_near := F_near.binds (ps := ["view", "cell"]) fun _ _ _ _ _ _ us hl => match us, hl with | [_, _], _ => rfl
  have F__law_places := fun_mk (st := s__law_places) l__law_places c__law_places k__law_places
  have b__law_places := F__law_places.binds (ps := ["found", "due"]) fun _ _ _ _ _ _ us hl => match us, hl with | [_, _], _ => rfl
  have F_is_laying := fun_mk (st := s_is_laying) l_is_laying c_is_laying k_is_laying
  have b_is_laying := F_is_laying.binds (ps := ["view", "laying"]) fun _ _ _ _ _ _ us hl => match us, hl with | [_, _], _ => rfl
  have F_stones_near := fun_mk (st := s_stones_near) l_stones_near c_stones_near k_stones_near
  have b_stones_near := F_stones_near.binds (ps := ["view", "cell", "laying"]) fun _ _ _ _ _ _ us hl => match us, hl with | [_, _, _], _ => rfl
  have F__law_state := fun_mk (st := s__law_state) l__law_state c__law_state k__law_state
  have b__law_state := F__law_state.binds (ps := ["height", "width", "stones", "known", "lost"]) fun _ _ _ _ _ _ us hl => match us, hl with | [_, _, _, _, _], _ => rfl
  have F__law_due := fun_mk (st := s__law_due) l__law_due c__law_due k__law_due
  have b__law_due := F__law_due.binds (ps := ["height", "width", "stones", "known", "state", "cell"]) fun _ _ _ _ _ _ us hl => match us, hl with | [_, _, _, _, _, _], _ => rfl
  have F__law_met := fun_mk (st := s__law_met) l__law_met c__law_met k__law_met
  have b__law_met := F__law_met.binds (ps := ["game", "cell"]) fun _ _ _ _ _ _ us hl => match us, hl with | [_, _], _ => rfl
  have F_law := fun_mk (st := s_law) l_law c_law k_law
  have b_law := F_law.binds (ps := ["script"]) fun _ _ _ _ _ _ us hl => match us, hl with | [_], _ => rfl
  have T : Txt K mg ⟨Z_FieldError, Z_BadView, Z_BadLaying, Z_NoCell, Z_Over, Z_View, Z_Game⟩ := { b_all := PySem.W.mg_none_of X G z_all, b_bool := PySem.W.mg_none_of X G z_bool, b_int := PySem.W.mg_none_of X G z_int, b_isinstance := PySem.W.mg_none_of X G z_isinstance, b_len := PySem.W.mg_none_of X G z_len, b_list := PySem.W.mg_none_of X G z_list, b_max := PySem.W.mg_none_of X G z_max, b_min := PySem.W.mg_none_of X G z_min, b_range := PySem.W.mg_none_of X G z_range, b_sorted := PySem.W.mg_none_of X G z_sorted, b_str := PySem.W.mg_none_of X G z_str, b_tuple := PySem.W.mg_none_of X G z_tuple, g_MOST_ROWS := ⟨_, PySem.W.mg_of X G g_MOST_ROWS⟩, g_MOST_COLUMNS := ⟨_, PySem.W.mg_of X G g_MOST_COLUMNS⟩, g_CLOSED_SIGN := ⟨_, PySem.W.mg_of X G g_CLOSED_SIGN⟩, g_SIGNS := ⟨_, PySem.W.mg_of X G g_SIGNS⟩, c_FieldError := PySem.W.mg_of X G a_FieldError, x_FieldError := ⟨x_FieldError⟩, c_BadView := PySem.W.mg_of X G a_BadView, x_BadView := ⟨x_BadView⟩, c_BadLaying := PySem.W.mg_of X G a_BadLaying, x_BadLaying := ⟨x_BadLaying⟩, c_NoCell := PySem.W.mg_of X G a_NoCell, x_NoCell := ⟨x_NoCell⟩, c_Over := PySem.W.mg_of X G a_Over, x_Over := ⟨x_Over⟩, c_View := PySem.W.mg_of X G a_View, cl_View := ⟨pg_View, hd_View, po_View, sa_View⟩, n_View_rows := n_View_rows, n_View_height := n_View_height, n_View_width := n_View_width, c_Game := PySem.W.mg_of X G a_Game, cl_Game := ⟨pg_Game, hd_Game, po_Game, sa_Game⟩, n_Game_field := n_Game_field, n_Game_hidden := n_Game_hidden, n_Game_figures := n_Game_figures, n_Game_lost := n_Game_lost, q_ii := q_ii, q_ib := q_ib, q_ll := q_ll, q_tt := q_tt, q_of := q_of, q_nf := q_nf, q_no := q_no, q_vv := q_vv }
  refine ⟨PySem.W.fnOf "law" "law" (defArgs s_law) (defBody s_law) (defScope s_law) .none kV_law dc_law pm_law an_law cd_law ct_law, fun s v => .of_eq rfl, fun base _ _ => ?_⟩
  have D__law_cell_at : Df l.prog w K mg base 1 "_law_cell_at" ["script", "k"] (spCell K) := ⟨⟨f__law_cell_at, _, ok_cell F__law_cell_at T, PySem.W.mg_of X G a__law_cell_at, k__law_cell_at, b__law_cell_at⟩⟩
  have D__law_mix : Df l.prog w K mg base 1 "_law_mix" ["cell", "k", "many"] (spMix) := ⟨⟨f__law_mix, _, ok_mix F__law_mix T, PySem.W.mg_of X G a__law_mix, k__law_mix, b__law_mix⟩⟩
  have D__law_whole : Df l.prog w K mg base 1 "_law_whole" ["found"] (spWhole) := ⟨⟨f__law_whole, _, ok_whole F__law_whole T, PySem.W.mg_of X G a__law_whole, k__law_whole, b__law_whole⟩⟩
  have D__law_near : Df l.prog w K mg base 1 "_law_near" ["height", "width", "cell"] (spNear K) := ⟨⟨f__law_near, _, ok_near F__law_near T, PySem.W.mg_of X G a__law_near, k__law_near, b__law_near⟩⟩
  have D__law_figure : Df l.prog w K mg base 2 "_law_figure" ["height", "width", "stones", "cell"] (spFig K) := ⟨⟨f__law_figure, _, ok_figure F__law_figure T D__law_near, PySem.W.mg_of X G a__law_figure, k__law_figure, b__law_figure⟩⟩
  have D__law_field_by : Df l.prog w K mg base 2 "_law_field_by" ["script", "most"] (spField K) := ⟨⟨f__law_field_by, _, ok_field F__law_field_by T D__law_cell_at D__law_mix, PySem.W.mg_of X G a__law_field_by, k__law_field_by, b__law_field_by⟩⟩
  have D__law_shown : Df l.prog w K mg base 3 "_law_shown" ["height", "width", "stones", "known"] (spShown K) := ⟨⟨f__law_shown, _, ok_shown F__law_shown T D__law_figure, PySem.W.mg_of X G a__law_shown, k__law_shown, b__law_shown⟩⟩
  have D__law_opened : Df l.prog w K mg base 3 "_law_opened" ["height", "width", "stones", "known", "cell"] (spOpened K) := ⟨⟨f__law_opened, _, ok_opened F__law_opened T D__law_near D__law_figure, PySem.W.mg_of X G a__law_opened, k__law_opened, b__law_opened⟩⟩
  have D_is_row : Df l.prog w K mg base 1 "is_row" ["row", "width"] (spRow) := ⟨⟨f_is_row, _, ok_row F_is_row T, PySem.W.mg_of X G a_is_row, k_is_row, b_is_row⟩⟩
  have D_is_size : Df l.prog w K mg base 1 "is_size" ["height", "width"] (spSize) := ⟨⟨f_is_size, _, ok_size F_is_size T, PySem.W.mg_of X G a_is_size, k_is_size, b_is_size⟩⟩
  have D_is_view : Df l.prog w K mg base 2 "is_view" ["rows"] (spView K) := ⟨⟨f_is_view, _, ok_view F_is_view T D_is_row D_is_size, PySem.W.mg_of X G a_is_view, k_is_view, b_is_view⟩⟩
  have M_View : Md l.prog w K mg base 3 "View" ["self", "rows"] Z_View (spInit K Z_View Z_BadView) := ⟨⟨f_View___init__, _, ⟨mk_View, a_View___init__, i_View___init__, kc_View⟩, ok_init F_View___init__ T D_is_view, PySem.W.mg_of X G a_View, b_View___init__⟩⟩
  have D_has_cell : Df l.prog w K mg base 1 "has_cell" ["view", "cell"] (spHas K Z_View) := ⟨⟨f_has_cell, _, ok_has F_has_cell T, PySem.W.mg_of X G a_has_cell, k_has_cell, b_has_cell⟩⟩
  have D_is_closed : Df l.prog w K mg base 2 "is_closed" ["view", "cell"] (spIsClosed K Z_View) := ⟨⟨f_is_closed, _, ok_isclosed F_is_closed T D_has_cell, PySem.W.mg_of X G a_is_closed, k_is_closed, b_is_closed⟩⟩
  have D_near : Df l.prog w K mg base 2 "near" ["view", "cell"] (spPNear K Z_View Z_NoCell) := ⟨⟨f_near, _, ok_pnear F_near T D_has_cell, PySem.W.mg_of X G a_near, k_near, b_near⟩⟩
  have D__law_places : Df l.prog w K mg base 2 "_law_places" ["found", "due"] (spPlaces K) := ⟨⟨f__law_places, _, ok_places F__law_places T D__law_whole, PySem.W.mg_of X G a__law_places, k__law_places, b__law_places⟩⟩
  have D_is_laying : Df l.prog w K mg base 3 "is_laying" ["view", "laying"] (spLaying K Z_View) := ⟨⟨f_is_laying, _, ok_islaying F_is_laying T D_is_closed, PySem.W.mg_of X G a_is_laying, k_is_laying, b_is_laying⟩⟩
  have D_stones_near : Df l.prog w K mg base 3 "stones_near" ["view", "cell", "laying"] (spStones K Z_View) := ⟨⟨f_stones_near, _, ok_stones F_stones_near T D_near, PySem.W.mg_of X G a_stones_near, k_stones_near, b_stones_near⟩⟩
  have M_Game : Md l.prog w K mg base 5 "Game" ["self", "height", "width", "stones"] Z_Game (spGInit K Z_Game Z_View Z_BadView Z_BadLaying) := ⟨⟨f_Game___init__, _, ⟨mk_Game, a_Game___init__, i_Game___init__, kc_Game⟩, ok_ginit F_Game___init__ T D_is_size M_View D_is_laying, PySem.W.mg_of X G a_Game, b_Game___init__⟩⟩
  have N_Game_state : Mth l.prog w K mg base 1 Z_Game "state" ["self"] (spGState K Z_Game Z_View) := ⟨⟨f_Game_state, _, ⟨a_Game_state, i_Game_state, k_Game_state⟩, ok_gstate F_Game_state T, b_Game_state⟩, ⟨pg_Game, hd_Game, po_Game, sa_Game⟩⟩
  have N_Game_view : Mth l.prog w K mg base 5 Z_Game "view" ["self"] (spGView K Z_Game Z_View) := ⟨⟨f_Game_view, _, ⟨a_Game_view, i_Game_view, k_Game_view⟩, ok_gview F_Game_view T M_View, b_Game_view⟩, ⟨pg_Game, hd_Game, po_Game, sa_Game⟩⟩
  have N_Game_uncover : Mth l.prog w K mg base 4 Z_Game "uncover" ["self", "cell"] (spUncover K Z_Game Z_View Z_Over Z_NoCell) := ⟨⟨f_Game_uncover, _, ⟨a_Game_uncover, i_Game_uncover, k_Game_uncover⟩, ok_uncover F_Game_uncover T N_Game_state D_has_cell D_stones_near D_near, b_Game_uncover⟩, ⟨pg_Game, hd_Game, po_Game, sa_Game⟩⟩
  have D__law_state : Df l.prog w K mg base 1 "_law_state" ["height", "width", "stones", "known", "lost"] (spLState K) := ⟨⟨f__law_state, _, ok_lstate F__law_state T, PySem.W.mg_of X G a__law_state, k__law_state, b__law_state⟩⟩
  have D__law_due : Df l.prog w K mg base 4 "_law_due" ["height", "width", "stones", "known", "state", "cell"] (spDue K) := ⟨⟨f__law_due, _, ok_due F__law_due T D__law_opened, PySem.W.mg_of X G a__law_due, k__law_due, b__law_due⟩⟩
  have D__law_met : Df l.prog w K mg base 5 "_law_met" ["game", "cell"] (spMetU K Z_Game Z_View) := ⟨⟨f__law_met, _, ok_metu F__law_met T N_Game_uncover, PySem.W.mg_of X G a__law_met, k__law_met, b__law_met⟩⟩
  exact ok_law F_law T D__law_cell_at D__law_mix D__law_field_by D__law_shown D__law_places D__law_state D__law_due D__law_met M_Game N_Game_view N_Game_state
theorem walk {l : PySem.W.OpenLaw} {q : Program} {loose : List Str} {XP : (Str → Option Value) → Heap → Prop} {YP : World → Heap → Prop} {d : DefRec} {K : Params → PySem.W.Frag} (hn : l.most = some 63) (hdf : d.params.defaults = [])
    (hY : ∀ (w : World) (h : Heap), YP w h → (K w.params).In h)
    (F : ∀ (w : World) (mg : Str → Option Value) (fa : Addr) (h : Heap), (K w.params).In h → h.Ns mainGlobals mg → mg d.name = some (.ref fa) →
      ∃ fd : FuncData, (∀ (s : Shared) (u : Value), BindsTo s fd ⟨[u], []⟩ [("script", u)]) ∧ ∀ base : Heap, (K w.params).In base → base.Ns mainGlobals mg → FnOk l.prog w (K w.params) mg base (CXE l.prog w) 7 fa fd ["script"] (spLaw (K w.params))) :
    PySem.W.WalkO q loose XP YP l.row.toRowW d [] (fun f vs => PySem.call f vs) :=
  L2.walk_of (n := 63) (k := 7) (x := "script") (CX := fun w => CXE l.prog w) (sp := fun w => spLaw (K w.params)) hn (by decide) hdf ⟨rfl, by decide, by decide⟩ hY F (fun _ _ a ns hl _ hS => ⟨a, ns, rfl, hS, fun _ => rfl⟩) fun _ _ _ _ _ z => by
    obtain ⟨_, _, _, _, _, _, _, _, _, z⟩ := z
    exact z
end My
open PySem PySem.W PyProof.Rows
set_option maxRecDepth 100000 in
set_option maxHeartbeats 0 in
theorem PySem.Challenge.cw_dampfield_k10_games_holds : PySem.Challenge.rw_dampfield_k10_games.Holds := by
  w_on; o_law; k_head; (case hw => w_witness2)
  k_fill
  refine My.walk (l := PySem.Challenge.rw_dampfield_k10_games) rfl rfl (fun w h Y => PySem.W.kIn_of Y) ?F
  case F =>
    intro w mg fa h KX G hmg
    refine' My.all_mk KX G hmg ?a_FieldError ?x_FieldError ?a_BadView ?x_BadView ?a_BadLaying ?x_BadLaying ?a_NoCell ?x_NoCell ?a_Over ?x_Over ?a_View ?a_View___init__ ?l_View___init__ ?c_View___init__ ?k_View___init__ ?i_View___init__ ?pg_View ?hd_View ?po_View ?sa_View ?mk_View ?kc_View ?n_View_rows ?n_View_height ?n_View_width ?a_Game ?a_Game___init__ ?l_Game___init__ ?c_Game___init__ ?k_Game___init__ ?i_Game___init__ ?a_Game_uncover ?l_Game_uncover ?c_Game_uncover ?k_Game_uncover ?i_Game_uncover ?a_Game_view ?l_Game_view ?c_Game_view ?k_Game_view ?i_Game_view ?a_Game_state ?l_Game_state ?c_Game_state ?k_Game_state ?i_Game_state ?pg_Game ?hd_Game ?po_Game ?sa_Game ?mk_Game ?kc_Game ?n_Game_field ?n_Game_hidden ?n_Game_figures ?n_Game_lost ?g_MOST_ROWS ?g_MOST_COLUMNS ?g_CLOSED_SIGN ?g_SIGNS ?z_all ?z_bool ?z_int ?z_isinstance ?z_len ?z_list ?z_max ?z_min ?z_range ?z_sorted ?z_str ?z_tuple ?q_ii ?q_ib ?q_ll ?q_tt ?q_of ?q_nf ?q_no ?q_vv ?a__law_cell_at ?l__law_cell_at ?c__law_cell_at ?k__law_cell_at ?a__law_mix ?l__law_mix ?c__law_mix ?k__law_mix ?a__law_whole ?l__law_whole ?c__law_whole ?k__law_whole ?a__law_near ?l__law_near ?c__law_near ?k__law_near ?a__law_figure ?l__law_figure ?c__law_figure ?k__law_figure ?a__law_field_by ?l__law_field_by ?c__law_field_by ?k__law_field_by ?a__law_shown ?l__law_shown ?c__law_shown ?k__law_shown ?a__law_opened ?l__law_opened ?c__law_opened ?k__law_opened ?a_is_row ?l_is_row ?c_is_row ?k_is_row ?a_is_size ?l_is_size ?c_is_size ?k_is_size ?a_is_view ?l_is_view ?c_is_view ?k_is_view ?a_has_cell ?l_has_cell ?c_has_cell ?k_has_cell ?a_is_closed ?l_is_closed ?c_is_closed ?k_is_closed ?a_near ?l_near ?c_near ?k_near ?a__law_places ?l__law_places ?c__law_places ?k__law_places ?a_is_laying ?l_is_laying ?c_is_laying ?k_is_laying ?a_stones_near ?l_stones_near ?c_stones_near ?k_stones_near ?a__law_state ?l__law_state ?c__law_state ?k__law_state ?a__law_due ?l__law_due ?c__law_due ?k__law_due ?a__law_met ?l__law_met ?c__law_met ?k__law_met ?a_law ?l_law ?c_law ?k_law
    (case a_FieldError => k_is)
    (case x_FieldError => k_exc)
    (case a_BadView => k_is)
    (case x_BadView => k_exc)
    (case a_BadLaying => k_is)
    (case x_BadLaying => k_exc)
    (case a_NoCell => k_is)
    (case x_NoCell => k_exc)
    (case a_Over => k_is)
    (case x_Over => k_exc)
    (case a_View => k_is)
    (case a_View___init__ => k_is)
    (case l_View___init__ => k_is)
    (case c_View___init__ => k_is)
    (case k_View___init__ => k_is)
    (case i_View___init__ => k_is)
    (case pg_View => k_is)
    (case hd_View => k_is)
    (case po_View => k_is)
    (case sa_View => k_is)
    (case mk_View => k_is)
    (case kc_View => k_is)
    (case n_View_rows => k_is)
    (case n_View_height => k_is)
    (case n_View_width => k_is)
    (case a_Game => k_is)
    (case a_Game___init__ => k_is)
    (case l_Game___init__ => k_is)
    (case c_Game___init__ => k_is)
    (case k_Game___init__ => k_is)
    (case i_Game___init__ => k_is)
    (case a_Game_uncover => k_is)
    (case l_Game_uncover => k_is)
    (case c_Game_uncover => k_is)
    (case k_Game_uncover => k_is)
    (case i_Game_uncover => k_is)
    (case a_Game_view => k_is)
    (case l_Game_view => k_is)
    (case c_Game_view => k_is)
    (case k_Game_view => k_is)
    (case i_Game_view => k_is)
    (case a_Game_state => k_is)
    (case l_Game_state => k_is)
    (case c_Game_state => k_is)
    (case k_Game_state => k_is)
    (case i_Game_state => k_is)
    (case pg_Game => k_is)
    (case hd_Game => k_is)
    (case po_Game => k_is)
    (case sa_Game => k_is)
    (case mk_Game => k_is)
    (case kc_Game => k_is)
    (case n_Game_field => k_is)
    (case n_Game_hidden => k_is)
    (case n_Game_figures => k_is)
    (case n_Game_lost => k_is)
    (case g_MOST_ROWS => k_is)
    (case g_MOST_COLUMNS => k_is)
    (case g_CLOSED_SIGN => k_is)
    (case g_SIGNS => k_is)
    (case z_all => k_is)
    (case z_bool => k_is)
    (case z_int => k_is)
    (case z_isinstance => k_is)
    (case z_len => k_is)
    (case z_list => k_is)
    (case z_max => k_is)
    (case z_min => k_is)
    (case z_range => k_is)
    (case z_sorted => k_is)
    (case z_str => k_is)
    (case z_tuple => k_is)
    (case q_ii => kit_is)
    (case q_ib => kit_is)
    (case q_ll => kit_is)
    (case q_tt => kit_is)
    (case q_of => kit_is)
    (case q_nf => kit_is)
    (case q_no => kit_is)
    (case q_vv => kit_is)
    (case a__law_cell_at => k_is)
    (case l__law_cell_at => k_is)
    (case c__law_cell_at => k_is)
    (case k__law_cell_at => k_is)
    (case a__law_mix => k_is)
    (case l__law_mix => k_is)
    (case c__law_mix => k_is)
    (case k__law_mix => k_is)
    (case a__law_whole => k_is)
    (case l__law_whole => k_is)
    (case c__law_whole => k_is)
    (case k__law_whole => k_is)
    (case a__law_near => k_is)
    (case l__law_near => k_is)
    (case c__law_near => k_is)
    (case k__law_near => k_is)
    (case a__law_figure => k_is)
    (case l__law_figure => k_is)
    (case c__law_figure => k_is)
    (case k__law_figure => k_is)
    (case a__law_field_by => k_is)
    (case l__law_field_by => k_is)
    (case c__law_field_by => k_is)
    (case k__law_field_by => k_is)
    (case a__law_shown => k_is)
    (case l__law_shown => k_is)
    (case c__law_shown => k_is)
    (case k__law_shown => k_is)
    (case a__law_opened => k_is)
    (case l__law_opened => k_is)
    (case c__law_opened => k_is)
    (case k__law_opened => k_is)
    (case a_is_row => k_is)
    (case l_is_row => k_is)
    (case c_is_row => k_is)
    (case k_is_row => k_is)
    (case a_is_size => k_is)
    (case l_is_size => k_is)
    (case c_is_size => k_is)
    (case k_is_size => k_is)
    (case a_is_view => k_is)
    (case l_is_view => k_is)
    (case c_is_view => k_is)
    (case k_is_view => k_is)
    (case a_has_cell => k_is)
    (case l_has_cell => k_is)
    (case c_has_cell => k_is)
    (case k_has_cell => k_is)
    (case a_is_closed => k_is)
    (case l_is_closed => k_is)
    (case c_is_closed => k_is)
    (case k_is_closed => k_is)
    (case a_near => k_is)
    (case l_near => k_is)
    (case c_near => k_is)
    (case k_near => k_is)
    (case a__law_places => k_is)
    (case l__law_places => k_is)
    (case c__law_places => k_is)
    (case k__law_places => k_is)
    (case a_is_laying => k_is)
    (case l_is_laying => k_is)
    (case c_is_laying => k_is)
    (case k_is_laying => k_is)
    (case a_stones_near => k_is)
    (case l_stones_near => k_is)
    (case c_stones_near => k_is)
    (case k_stones_near => k_is)
    (case a__law_state => k_is)
    (case l__law_state => k_is)
    (case c__law_state => k_is)
    (case k__law_state => k_is)
    (case a__law_due => k_is)
    (case l__law_due => k_is)
    (case c__law_due => k_is)
    (case k__law_due => k_is)
    (case a__law_met => k_is)
    (case l__law_met => k_is)
    (case c__law_met => k_is)
    (case k__law_met => k_is)
    (case a_law => k_is)
    (case l_law => k_is)
    (case c_law => k_is)
    (case k_law => k_is)
