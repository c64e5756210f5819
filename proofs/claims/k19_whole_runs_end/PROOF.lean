import PyProof.Rows.All
import Wide.All
import OpenK.AllK
import Wide.FinOn
import Lean
import PyProof.EqAt
import PyProof.EqKinds
import PyProof.TupleCall
import PyProof.NeKinds
import PySem.Challenge.RW_mendweights_k19_whole_runs_end
set_option Elab.async false
set_option linter.all false
set_option maxRecDepth 100000
/-! THE HAND LAYER, for ints, bools, texts, own classes, LISTS and tuples (index, slices, in, append, pop ..), calls, loops. Paste it whole ahead of your own text; what your proof does not reach may be deleted. -/
namespace L2
open PySem PySem.Spec PyProof.Rows

/-- a key: an int or a str -/
abbrev Key := Sum Int Str
def keyIs : Key → Value → Bool
  | .inl k, v => Value.isInt k v
  | .inr x, v => Value.isStrOf x v
def keyH (w : World) : Key → Int
  | .inl k => hashInt k
  | .inr x => hashStr w x
theorem keyIs_shape : ∀ {k : Key} {v : Value}, keyIs k v = true → (∃ i t, k = Sum.inl i ∧ v = Value.int i t) ∨ (∃ x t, k = Sum.inr x ∧ v = Value.str x t)
  | .inl i, v, h => by
    obtain ⟨t, e⟩ := Value.isInt_shape (k := i) (v := v) h
    exact .inl ⟨i, t, rfl, e⟩
  | .inr x, v, h => by
    obtain ⟨t, e⟩ := Value.isStrOf_shape (x := x) (v := v) h
    exact .inr ⟨x, t, rfl, e⟩
theorem keyIs_int (i : Int) (t : Tok) : keyIs (.inl i) (.int i t) = true := by simp [keyIs, Value.isInt]
theorem keyIs_str (x : Str) (t : Tok) : keyIs (.inr x) (.str x t) = true := by simp [keyIs, Value.isStrOf]
theorem key_ll (a b : Int) : decide ((Sum.inl a : Key) = Sum.inl b) = (a == b) := by
  by_cases e : a = b
  · subst e; simp
  · have h : ¬ (Sum.inl a : Key) = Sum.inl b := fun q => e (Sum.inl.inj q)
    rw [decide_eq_false h]
    exact (beq_eq_false_iff_ne.mpr e).symm
theorem key_rr (a b : Str) : decide ((Sum.inr a : Key) = Sum.inr b) = decide (a = b) := by
  by_cases e : a = b
  · subst e; simp
  · have h : ¬ (Sum.inr a : Key) = Sum.inr b := fun q => e (Sum.inr.inj q)
    rw [decide_eq_false h, decide_eq_false e]
theorem key_lr (a : Int) (b : Str) : decide ((Sum.inl a : Key) = Sum.inr b) = false := decide_eq_false (fun q => nomatch q)
theorem key_rl (a : Str) (b : Int) : decide ((Sum.inr a : Key) = Sum.inl b) = false := decide_eq_false (fun q => nomatch q)

def mixKind (prog : Program) (w : World) : PySem.KeyKind prog w Key where
  is := keyIs
  hash := keyH w
  inj := fun v a b ha hb => by
    rcases keyIs_shape ha with ⟨i, t, rfl, rfl⟩ | ⟨x, t, rfl, rfl⟩
    · rcases keyIs_shape hb with ⟨j, u, rfl, e⟩ | ⟨y, u, rfl, e⟩
      · injection e with e1 _; rw [e1]
      · exact nomatch e
    · rcases keyIs_shape hb with ⟨j, u, rfl, e⟩ | ⟨y, u, rfl, e⟩
      · exact nomatch e
      · injection e with e1 _; rw [e1]
  byValue := fun k v h => by
    rcases keyIs_shape h with ⟨i, t, rfl, rfl⟩ | ⟨x, t, rfl, rfl⟩ <;> rfl
  pyHash := fun hv h => by
    rcases keyIs_shape hv with ⟨i, t, rfl, rfl⟩ | ⟨x, t, rfl, rfl⟩
    · exact wpAny_pyHash_int h
    · exact wpAny_pyHash_str h
  eqBool := fun hu hv h => by
    rcases keyIs_shape hu with ⟨i, t, rfl, rfl⟩ | ⟨x, t, rfl, rfl⟩
    · rcases keyIs_shape hv with ⟨j, u, rfl, rfl⟩ | ⟨y, u, rfl, rfl⟩
      · rw [key_ll] at h; exact wpAny_eqBool_int h
      · rw [key_lr] at h; exact SeqAt.EqAt.int_str i t y u _ _ _ _ h
    · rcases keyIs_shape hv with ⟨j, u, rfl, rfl⟩ | ⟨y, u, rfl, rfl⟩
      · rw [key_rl] at h; exact SeqAt.EqAt.str_int x t j u _ _ _ _ h
      · rw [key_rr] at h; exact wpAny_eqBool_str h
  «strs» := fun k x t v h => by
    rcases keyIs_shape h with ⟨i, u, rfl, e⟩ | ⟨y, u, rfl, e⟩
    · exact nomatch e
    · injection e with e1 _
      subst e1
      cases v <;> rfl

theorem mixKind_is (prog : Program) (w : World) (k : Key) (v : Value) : (mixKind prog w).is k v = keyIs k v := rfl
theorem mixKind_int (prog : Program) (w : World) (i : Int) (t : Tok) : (mixKind prog w).is (.inl i) (.int i t) = true := keyIs_int i t
theorem mixKind_str (prog : Program) (w : World) (x : Str) (t : Tok) : (mixKind prog w).is (.inr x) (.str x t) = true := keyIs_str x t
end L2

namespace L2
open PySem PySem.Spec PyProof.Rows

/-- a value, without the heap -/
inductive V where
  | non | bl (b : Bool) | int (i : Int) | str (x : Str) | byt (b : Array UInt8) | flt (b : UInt64) | ref (a : Addr) | ty (n : String)
  deriving DecidableEq

def RelV : V → Value → Prop
  | .non, u => u = Value.none
  | .bl b, u => u = Value.bool b
  | .int i, u => ∃ t, u = Value.int i t
  | .str x, u => ∃ t, u = Value.str x t
  | .byt b, u => ∃ t, u = Value.bytes b t
  | .flt b, u => ∃ t, u = Value.float b t
  | .ref a, u => u = Value.ref a
  | .ty n, u => u = Value.type n

abbrev Vals : List V → List Value → Prop := Paired RelV
theorem Vals.length {xs : List V} {us : List Value} (r : Vals xs us) : xs.length = us.length := Paired.length r
theorem Vals.get : ∀ {xs : List V} {us : List Value} {i : Nat} {x : V}, Vals xs us → xs[i]? = some x → ∃ u, us[i]? = some u ∧ RelV x u
  | _, _, _, _, .nil, e => by simp at e
  | _, _, 0, _, .cons r _, e => by simp at e; subst e; exact ⟨_, rfl, r⟩
  | _, _, i + 1, x, .cons _ t, e => by
    obtain ⟨u, h1, h2⟩ := Vals.get (i := i) (x := x) t (by simpa using e)
    exact ⟨u, by simpa using h1, h2⟩
theorem Vals.set {x : V} {u : Value} (r : RelV x u) : ∀ {xs : List V} {us : List Value} (i : Nat), Vals xs us → Vals (xs.set i x) (us.set i u)
  | _, _, _, .nil => .nil
  | _, _, 0, .cons _ t => .cons r t
  | _, _, i + 1, .cons q t => .cons q (Vals.set r i t)
theorem Vals.append : ∀ {xs ys : List V} {us ws : List Value}, Vals xs us → Vals ys ws → Vals (xs ++ ys) (us ++ ws)
  | _, _, _, _, .nil, s => s
  | _, _, _, _, .cons r t, s => .cons r (Vals.append t s)
theorem Vals.take : ∀ {xs : List V} {us : List Value} (n : Nat), Vals xs us → Vals (xs.take n) (us.take n)
  | _, _, 0, _ => .nil
  | _, _, _ + 1, .nil => .nil
  | _, _, n + 1, .cons r t => .cons r (Vals.take n t)
theorem Vals.drop : ∀ {xs : List V} {us : List Value} (n : Nat), Vals xs us → Vals (xs.drop n) (us.drop n)
  | _, _, 0, r => r
  | _, _, _ + 1, .nil => .nil
  | _, _, n + 1, .cons _ t => Vals.drop n t
theorem Vals.none_of : ∀ {xs : List V} {us : List Value} {i : Nat}, Vals xs us → xs[i]? = none → us[i]? = none := fun {xs us i} r e => by
  have h1 := r.length
  have h2 : xs.length ≤ i := List.getElem?_eq_none_iff.mp e
  exact List.getElem?_eq_none_iff.mpr (by omega)

def RelO : Option V → Option Value → Prop
  | some v, some u => RelV v u
  | none, none => True
  | _, _ => False
def KV {κ : Type} : List (κ × V) → List (κ × Value) → Prop := Paired fun (p : κ × V) (q : κ × Value) => p.1 = q.1 ∧ RelV p.2 q.2

/-- a key of a dict (00_mix): an int or a text -/
def kV : Key → V
  | .inl i => .int i
  | .inr x => .str x

/-- what stands at a tracked address -/
inductive HO where
  /-- a list -/
  | lst (xs : List V)
  /-- a tuple (never changes) -/
  | tup (xs : List V)
  /-- a dict whose keys are ints and texts; one whose keys are tuples of ints and texts (the empty one is both) -/
  | dK (kvs : List (Key × V)) | dT (kvs : List (List Key × V))
  /-- a set of ints: its members, its size -/
  | set (S : Int → Bool) (n : Nat)
  /-- an instance of the class at C, its dict at dx, its attributes -/
  | ins (C dx : Addr) (fs : List (Str × V))
  /-- the dict of the instance at x -/
  | own (x : Addr)
  /-- the dict of an exception -/
  | xd (fs : List (Str × V))
  /-- a bound method, f of x -/
  | met (f x : Addr)
  /-- a range object lo, lo + 1, .. below hi -/
  | rng (lo hi : Int)
  /-- a thing that is known to the object (the script; a dict while a loop walks it): read, never written while it is so -/
  | frz (o : Obj) (u : HO)
  /-- a code object's table -/
  | tbl (ps : Array Value)
  /-- any other thing, by what is true of its one object (a def of one's own: SetO a S n := HO.ext fun h => ..) -/
  | ext (φ : Heap → Prop)

abbrev Hp := Addr → Option HO
def upd (H : Hp) (a : Addr) (o : HO) : Hp := fun b => if b = a then some o else H b
theorem upd_same {H : Hp} {a : Addr} {o : HO} : upd H a o a = some o := by unfold upd; rw [if_pos rfl]
theorem upd_ne {H : Hp} {a b : Addr} {o : HO} (h : b ≠ a) : upd H a o b = H b := by unfold upd; rw [if_neg h]
theorem upd_upd {H : Hp} {a : Addr} {o u : HO} : upd (upd H a o) a u = upd H a u := by
  funext b; unfold upd; split <;> rfl
/-- two objects of different content stand apart -/
theorem ne_of {H : Hp} {a b : Addr} {o u : HO} (h : H a = some o) (h' : H b = some u) (d : o ≠ u) : a ≠ b := by
  intro e; subst e; rw [h] at h'; exact d (Option.some.inj h')
theorem ne_of_none {H : Hp} {a b : Addr} {o : HO} (h : H a = some o) (h' : H b = none) : a ≠ b := by
  intro e; subst e; rw [h] at h'; cases h'

section
variable (P : Program) (w : World)
def ObjOk (H : Hp) (h : Heap) (a : Addr) : HO → Prop
  | .lst xs => xs.length ≤ sizeLine ∧ ∃ (its : List Value) (n : Nat), Vals xs its ∧ h.get? a = some { cls := .type "list", data := .seq its.toArray n }
  | .tup xs => xs.length ≤ sizeLine ∧ ∃ its : List Value, Vals xs its ∧ IsTup h a its.toArray
  | .dK kvs => kvs.length ≤ sizeLine ∧ (a == sysModules) = false ∧ ∃ vs, KV kvs vs ∧ h.DictOf (mixKind P w) a vs
  | .dT kvs => kvs.length ≤ sizeLine ∧ (a == sysModules) = false ∧ ∃ xs : List (List Key × Addr × Value),
      Paired (fun (p : List Key × V) (q : List Key × Addr × Value) => p.1 = q.1 ∧ H q.2.1 = some (.tup (p.1.map kV)) ∧ RelV p.2 q.2.2) kvs xs ∧
      ∃ o es ep, h.get? a = some o ∧ o.ExactDict ∧ o.data = .dict es ep ∧ es.toList = xs.map (entryOfKey (tupleKind (mixKind P w))) ∧ (xs.map (·.1)).Nodup
  | .set S n => h.SetOf (intKind P w) a S n
  | .ins C dx fs => H dx = some (.own a) ∧ fs.length ≤ 1000 ∧ dx ≠ a ∧ h.get? a = some (PySem.W.instObj C dx) ∧
      ∃ mA, h.Ns1 dx mA ∧ (∀ f, RelO (fs.lookup f) (mA f)) ∧ PySem.Within mA (fs.map (·.1))
  | .own _ => ∃ o, h.get? a = some o
  | .xd fs => ∃ mA, h.Ns1 a mA ∧ ∀ f, RelO (fs.lookup f) (mA f)
  | .rng lo hi => ∃ t u v, h.get? a = some { cls := .type "range", data := .fields #[.int lo t, .int hi u, .int 1 v] }
  | .frz o u => h.get? a = some o ∧ ObjOk H h a u
  | .tbl ps => h.get? a = some { cls := .none, data := .fields ps }
  | .met f x => h.get? a = some (PySem.W.methodObj (.ref f) (.ref x))
  | .ext φ => φ h ∧ (∃ o, h.get? a = some o) ∧ ∀ h1 h2 : Heap, φ h1 → (∀ o, h1.get? a = some o → h2.get? a = some o) → φ h2
/-- the abstract heap is held -/
def HOk (H : Hp) (h : Heap) : Prop := ∀ a o, H a = some o → ObjOk P w H h a o
end

section
variable {P : Program} {w : World} {H H' : Hp} {h h' : Heap} {a : Addr} {o : HO}
theorem ObjOk.lt (x : ObjOk P w H h a o) : a < h.objs.size := by
  cases o with
  | lst xs => obtain ⟨_, _, _, _, e⟩ := x; exact Heap.lt_size e
  | tup xs => obtain ⟨_, _, _, p⟩ := x; exact p.lt
  | dK kvs => obtain ⟨_, _, _, _, o, _, _, e, _⟩ := x; exact Heap.lt_size e
  | dT kvs => obtain ⟨_, _, _, _, o, _, _, e, _⟩ := x; exact Heap.lt_size e
  | set S n => obtain ⟨o, _, _, _, e, _⟩ := x; exact Heap.lt_size e
  | ins C dx fs => obtain ⟨_, _, _, e, _⟩ := x; exact Heap.lt_size e
  | own y => obtain ⟨_, e⟩ := x; exact Heap.lt_size e
  | xd fs => obtain ⟨_, ⟨_, _, _, e, _⟩, _⟩ := x; exact Heap.lt_size e
  | rng lo hi => obtain ⟨_, _, _, e⟩ := x; exact Heap.lt_size e
  | frz ob u => obtain ⟨e, _⟩ := x; exact Heap.lt_size e
  | tbl ps => exact Heap.lt_size (show h.get? a = some _ from x)
  | met f y => exact Heap.lt_size (show h.get? a = some _ from x)
  | ext φ => obtain ⟨_, ⟨_, e⟩, _⟩ := x; exact Heap.lt_size e
theorem Paired.mapP {α β : Type} {F G : α → β → Prop} : ∀ {l₁ : List α} {l₂ : List β}, Paired F l₁ l₂ → (∀ a b, F a b → G a b) → Paired G l₁ l₂
  | _, _, .nil, _ => .nil
  | _, _, .cons r t, f => .cons (f _ _ r) (Paired.mapP t f)
theorem Paired.imp' {α β : Type} {F G : α → β → Prop} (f : ∀ a b, F a b → G a b) {l₁ : List α} {l₂ : List β} (r : Paired F l₁ l₂) : Paired G l₁ l₂ := Paired.mapP r f
/-- what an object's description leans on: its own object, its own dict, the tuples -/
theorem ObjOk.stay (x : ObjOk P w H h a o) (k : ∀ b u, (b = a ∨ H b = some (.own a)) → h.get? b = some u → h'.get? b = some u)
    (ho : ∀ b, H b = some (.own a) → H' b = some (.own a)) (ht : ∀ b xs, H b = some (.tup xs) → H' b = some (.tup xs)) : ObjOk P w H' h' a o := by
  induction o with
  | lst xs => obtain ⟨z, its, n, r, e⟩ := x; exact ⟨z, its, n, r, k _ _ (.inl rfl) e⟩
  | tup xs => obtain ⟨z, its, r, ob, e, c⟩ := x; exact ⟨z, its, r, ob, k _ _ (.inl rfl) e, c⟩
  | dK kvs => obtain ⟨z, y, vs, r, ob, es, ep, e, c⟩ := x; exact ⟨z, y, vs, r, ob, es, ep, k _ _ (.inl rfl) e, c⟩
  | dT kvs =>
    obtain ⟨z, y, xs, r, ob, es, ep, e, c⟩ := x
    exact ⟨z, y, xs, Paired.mapP r fun p q z => ⟨z.1, ht _ _ z.2.1, z.2.2⟩, ob, es, ep, k _ _ (.inl rfl) e, c⟩
  | set S n => obtain ⟨ob, es, ep, t, e, c⟩ := x; exact ⟨ob, es, ep, t, k _ _ (.inl rfl) e, c⟩
  | ins C dx fs =>
    obtain ⟨d, z, ne, e, mA, ⟨od, es, ep, e2, c⟩, r⟩ := x
    exact ⟨ho _ d, z, ne, k _ _ (.inl rfl) e, mA, ⟨od, es, ep, k _ _ (.inr d) e2, c⟩, r⟩
  | own y => obtain ⟨ob, e⟩ := x; exact ⟨ob, k _ _ (.inl rfl) e⟩
  | xd fs => obtain ⟨mA, ⟨od, es, ep, e, c⟩, r⟩ := x; exact ⟨mA, ⟨od, es, ep, k _ _ (.inl rfl) e, c⟩, r⟩
  | rng lo hi => obtain ⟨t, u, v, e⟩ := x; exact ⟨t, u, v, k _ _ (.inl rfl) e⟩
  | frz ob u ih => obtain ⟨e, q⟩ := x; exact ⟨k _ _ (.inl rfl) e, ih q⟩
  | tbl ps =>
    have e : h.get? a = some { cls := .none, data := .fields ps } := x
    show h'.get? a = some { cls := .none, data := .fields ps }
    exact k a _ (.inl rfl) e
  | met f y =>
    have e : h.get? a = some (PySem.W.methodObj (.ref f) (.ref y)) := x
    show h'.get? a = some (PySem.W.methodObj (.ref f) (.ref y))
    exact k a _ (.inl rfl) e
  | ext φ => obtain ⟨p, ⟨o, e⟩, st⟩ := x; exact ⟨st _ _ p fun o q => k _ _ (.inl rfl) q, ⟨o, k _ _ (.inl rfl) e⟩, st⟩
theorem HOk.lt (x : HOk P w H h) (e : H a = some o) : a < h.objs.size := (x a o e).lt
theorem HOk.fresh (x : HOk P w H h) (e : h.objs.size ≤ a) : H a = none := by
  cases q : H a with
  | none => rfl
  | some u => exact absurd (Nat.lt_of_lt_of_le (x.lt q) e) (Nat.lt_irrefl _)
/-- every object of the heap is kept -/
theorem HOk.kept (x : HOk P w H h) (k : ∀ b u, h.get? b = some u → h'.get? b = some u) : HOk P w H h' := fun a o e =>
  (x a o e).stay (fun b u _ q => k b u q) (fun _ q => q) fun _ _ q => q
/-- a new object is laid and tracked -/
theorem HOk.laid (x : HOk P w H h) (k : ∀ b u, h.get? b = some u → h'.get? b = some u) (hp : h.objs.size ≤ a) (new : ObjOk P w (upd H a o) h' a o) : HOk P w (upd H a o) h' := fun b u e => by
  have hn := x.fresh hp
  by_cases hb : b = a
  · subst hb; rw [upd_same] at e; cases e; exact new
  · rw [upd_ne hb] at e
    exact (x b u e).stay (fun c v _ q => k c v q) (fun c q => by rw [upd_ne (ne_of_none q hn)]; exact q) fun c xs q => by rw [upd_ne (ne_of_none q hn)]; exact q
end

/-- what may be read as u: it is u, or a known u -/
def Rd (H : Hp) (a : Addr) (u : HO) : Prop := H a = some u ∨ ∃ o, H a = some (.frz o u)
theorem Rd.of {H : Hp} {a : Addr} {u : HO} (h : H a = some u) : Rd H a u := .inl h
theorem Rd.ok {P : Program} {w : World} {H : Hp} {h : Heap} {a : Addr} {u : HO} (r : Rd H a u) (x : HOk P w H h) : ObjOk P w H h a u := by
  rcases r with r | ⟨o, r⟩
  · exact x a u r
  · obtain ⟨_, q⟩ := x a _ r
    exact q
/-- what may be written -/
def Mut : Option HO → Prop
  | some (.lst _) => True
  | some (.dK _) => True
  | some (.dT _) => True
  | some (.set _ _) => True
  | some (.ins _ _ _) => True
  | some (.ext _) => True
  | _ => False
section
variable {P : Program} {w : World} {H : Hp} {h h' : Heap} {x e : Addr} {o' : HO}
/-- the object at e is changed: x itself, or the dict of the instance x -/
theorem HOk.write (ok : HOk P w H h) (mu : Mut (H x)) (he : e = x ∨ H e = some (.own x)) (k : ∀ b u, b ≠ e → h.get? b = some u → h'.get? b = some u) (heo : ∃ u, h'.get? e = some u)
    (new : ObjOk P w (upd H x o') h' x o') : HOk P w (upd H x o') h' := fun b u q => by
  have nown : ∀ c y, H c = some (.own y) → c ≠ x := fun c y r z => by subst z; rw [r] at mu; exact mu
  have ntup : ∀ c xs, H c = some (.tup xs) → c ≠ x := fun c xs r z => by subst z; rw [r] at mu; exact mu
  by_cases hb : b = x
  · subst hb; rw [upd_same] at q; cases q; exact new
  · rw [upd_ne hb] at q
    by_cases hbe : b = e
    · have q' : H b = some (.own x) := by
        rcases he with z | z
        · exact absurd (hbe.trans z) hb
        · rw [hbe]; exact z
      rw [q] at q'; cases q'
      obtain ⟨v, hv⟩ := heo
      exact ⟨v, by rw [hbe]; exact hv⟩
    · refine (ok b u q).stay (fun c v hc r => k c v ?_ r) (fun c r => by rw [upd_ne (nown c b r)]; exact r) fun c xs r => by rw [upd_ne (ntup c xs r)]; exact r
      rcases hc with rfl | hc
      · exact hbe
      · rintro rfl
        rcases he with z | z
        · exact nown c b hc z
        · rw [hc] at z; cases z; exact hb rfl
end

/-! ### kept unless tracked; of the frames at fs (the callers') the slots may change (an exception that passes writes there); of the records at ex (iterators) nothing is said -/
structure Un (fs ex : List Addr) (H H' : Hp) (h h' : Heap) : Prop where
  keep : ∀ b o, h.get? b = some o → H b = none → b ∉ fs → b ∉ ex → h'.get? b = some o
  slot : ∀ b o, h.get? b = some o → H b = none → b ∈ fs → b ∉ ex → ∃ sl, h'.get? b = some { o with slots := sl }
  free : ∀ b o, h.get? b = some o → H b = none → b ∉ ex → H' b = none
  there : ∀ b o, h.get? b = some o → b ∉ ex → ∃ o', h'.get? b = some o'
  tups : ∀ b xs, H b = some (.tup xs) → H' b = some (.tup xs)
  frzs : ∀ b o u, H b = some (.frz o u) → H' b = some (.frz o u)
  tbls : ∀ b ps, H b = some (.tbl ps) → ∃ more, H' b = some (.tbl (ps ++ more))
section
variable {fs fs' ex ex' : List Addr} {H H1 H2 : Hp} {h h1 h2 h' : Heap} {a x e : Addr} {o : HO}
theorem Un.any (u : Un fs ex H H1 h h1) {b : Addr} {ob : Obj} (q : h.get? b = some ob) (n : H b = none) (hx : b ∉ ex) : ∃ sl, h1.get? b = some { ob with slots := sl } := by
  by_cases hb : b ∈ fs
  · exact u.slot b ob q n hb hx
  · exact ⟨ob.slots, u.keep b ob q n hb hx⟩
theorem Un.trans (a : Un fs ex H H1 h h1) (b : Un fs ex H1 H2 h1 h2) : Un fs ex H H2 h h2 where
  keep := fun c ob q n hc hx => b.keep c ob (a.keep c ob q n hc hx) (a.free c ob q n hx) hc hx
  slot := fun c ob q n hc hx => by
    obtain ⟨sl, e1⟩ := a.slot c ob q n hc hx
    obtain ⟨sl', e2⟩ := b.slot c _ e1 (a.free c ob q n hx) hc hx
    exact ⟨sl', e2⟩
  free := fun c ob q n hx => by
    obtain ⟨o', e1⟩ := a.there c ob q hx
    exact b.free c o' e1 (a.free c ob q n hx) hx
  there := fun c ob q hx => by
    obtain ⟨o', e1⟩ := a.there c ob q hx
    exact b.there c o' e1 hx
  tups := fun c xs q => b.tups c xs (a.tups c xs q)
  frzs := fun c ob xs q => b.frzs c ob xs (a.frzs c ob xs q)
  tbls := fun c ps q => by
    obtain ⟨m1, e1⟩ := a.tbls c ps q
    obtain ⟨m2, e2⟩ := b.tbls c _ e1
    exact ⟨m1 ++ m2, by rw [e2, Array.append_assoc]⟩
theorem Un.kept (k : ∀ b u, h.get? b = some u → h'.get? b = some u) : Un fs ex H H h h' :=
  ⟨fun b ob q _ _ _ => k b ob q, fun b ob q _ _ _ => ⟨ob.slots, k b ob q⟩, fun _ _ _ n _ => n, fun b ob q _ => ⟨ob, k b ob q⟩, fun _ _ q => q, fun _ _ _ q => q, fun _ ps q => ⟨#[], by rw [q]; simp⟩⟩
theorem Un.refl : Un fs ex H H h h := Un.kept fun _ _ q => q
theorem Un.laid (k : ∀ b u, h.get? b = some u → h'.get? b = some u) (hp : h.objs.size ≤ a) (hn : H a = none) : Un fs ex H (upd H a o) h h' where
  keep := fun b u q _ _ _ => k b u q
  slot := fun b u q _ _ _ => ⟨u.slots, k b u q⟩
  free := fun b u q n _ => by rw [upd_ne (Nat.ne_of_lt (Nat.lt_of_lt_of_le (Heap.lt_size q) hp))]; exact n
  there := fun b u q _ => ⟨u, k b u q⟩
  tups := fun b xs q => by rw [upd_ne (ne_of_none q hn)]; exact q
  frzs := fun b u xs q => by rw [upd_ne (ne_of_none q hn)]; exact q
  tbls := fun b ps q => ⟨#[], by rw [upd_ne (ne_of_none q hn), q]; simp⟩
theorem Un.write (mu : Mut (H x)) (he : e = x ∨ H e = some (.own x)) (k : ∀ b u, b ≠ e → h.get? b = some u → h'.get? b = some u) (heo : ∃ u, h'.get? e = some u) : Un fs ex H (upd H x o) h h' := by
  have hx : ∀ b, H b = none → b ≠ x := fun b n z => by subst z; rw [n] at mu; exact mu
  have hb : ∀ b, H b = none → b ≠ e := fun b n z => by
    subst z
    rcases he with r | r
    · exact hx b n r
    · rw [n] at r; cases r
  have hm : ∀ b u, H b = some u → ¬ Mut (some u) → b ≠ x := fun b u q nm z => by subst z; rw [q] at mu; exact nm mu
  refine ⟨fun b u q n _ _ => k b u (hb b n) q, fun b u q n _ _ => ⟨u.slots, k b u (hb b n) q⟩, fun b u q n _ => by rw [upd_ne (hx b n)]; exact n, fun b u q _ => ?_,
    fun b xs q => by rw [upd_ne (hm b _ q fun z => z)]; exact q, fun b u xs q => by rw [upd_ne (hm b _ q fun z => z)]; exact q, fun b ps q => ⟨#[], by rw [upd_ne (hm b _ q fun z => z), q]; simp⟩⟩
  by_cases hbe : b = e
  · subst hbe; exact heo
  · exact ⟨u, k b u hbe q⟩
theorem Un.mono (u : Un fs ex H H1 h h1) (hs : ∀ b ∈ fs, b ∈ fs') (hx : ∀ b ∈ ex, b ∈ ex') : Un fs' ex' H H1 h h1 :=
  ⟨fun b ob q n hb he => u.keep b ob q n (fun z => hb (hs b z)) fun z => he (hx b z), fun _ _ q n _ he => u.any q n fun z => he (hx _ z), fun b ob q n he => u.free b ob q n fun z => he (hx b z), fun b ob q he => u.there b ob q fun z => he (hx b z), u.tups, u.frzs, u.tbls⟩
end

/-! ### the heap without what is tracked -/
def trk (h : Heap) (H : Hp) : List Addr := (List.range h.objs.size).filter fun a => (H a).isSome
def hidT (h : Heap) (H : Hp) : Heap := PySem.W.hideAll h (trk h H)
theorem hidT_size (h : Heap) (H : Hp) : (hidT h H).objs.size = h.objs.size := PySem.W.hideAll_size _ _
theorem hidT_get {h : Heap} {H : Hp} {b : Addr} {o : Obj} (e : h.get? b = some o) (n : H b = none) : (hidT h H).get? b = some o :=
  PySem.W.hideAll_get _ e fun hm => by
    have q : (H b).isSome = true := (List.mem_filter.mp hm).2
    rw [n] at q; simp at q
theorem of_hidT {h : Heap} {H : Hp} {b : Addr} {o : Obj} (e : (hidT h H).get? b = some o) : h.get? b = some o ∧ H b = none := by
  have e' : h.get? b = some o := PySem.W.of_hideAll (trk h H) e
  refine ⟨e', ?_⟩
  cases q : H b with
  | none => rfl
  | some x =>
    have hm : b ∈ trk h H := List.mem_filter.mpr ⟨List.mem_range.mpr (Heap.lt_size e'), by simp [q]⟩
    have z : (hidT h H).get? b = none := PySem.W.hideAll_none (trk h H) hm
    rw [z] at e; cases e

/-! ### OpenK's ledger, filled with every new object but one -/
def allNews (g h : Heap) (L : Addr) : List (Addr × Obj) := (List.range h.objs.size).filterMap fun a => if a = L ∨ (g.get? a).isSome = true then none else (h.get? a).map fun o => (a, o)
theorem mem_allNews {g h : Heap} {L a : Addr} {o : Obj} (h1 : a ≠ L) (h2 : g.get? a = none) (h3 : h.get? a = some o) : (a, o) ∈ allNews g h L :=
  List.mem_filterMap.mpr ⟨a, List.mem_range.mpr (Heap.lt_size h3), by simp [h1, h2, h3]⟩
theorem of_mem_allNews {g h : Heap} {L : Addr} {p : Addr × Obj} (hp : p ∈ allNews g h L) : p.1 ≠ L ∧ g.get? p.1 = none ∧ h.get? p.1 = some p.2 := by
  obtain ⟨b, _, e⟩ := List.mem_filterMap.mp hp
  split at e
  · cases e
  · rename_i hn
    cases q : h.get? b with
    | none => rw [q] at e; simp at e
    | some u =>
      rw [q] at e
      simp only [Option.map_some, Option.some.injEq] at e
      subst e
      refine ⟨fun z => hn (.inl z), ?_, q⟩
      show g.get? b = none
      cases r : g.get? b with
      | none => rfl
      | some v => exact (hn (.inr (by simp [r]))).elim
def rest (g h : Heap) (L d : Addr) : List (Addr × Obj) := (allNews g h L).filter fun p => decide (p.1 ≠ d)
theorem rest_ne {g h : Heap} {L d : Addr} : ∀ p ∈ rest g h L d, p.1 ≠ d := fun p hp => of_decide_eq_true (List.mem_filter.mp hp).2
theorem mem_rest {g h : Heap} {L d a : Addr} {o : Obj} (h1 : a ≠ L) (h2 : g.get? a = none) (h3 : h.get? a = some o) (h4 : a ≠ d) : (a, o) ∈ rest g h L d :=
  List.mem_filter.mpr ⟨mem_allNews h1 h2 h3, decide_eq_true h4⟩
theorem news_all {g h : Heap} {L : Addr} : News g L h (allNews g h L) := fun p hp => let ⟨a, b, c⟩ := of_mem_allNews hp; ⟨c, a, b⟩
theorem news_at {g h : Heap} {L d : Addr} {o : Obj} (h1 : d ≠ L) (h2 : g.get? d = none) (h3 : h.get? d = some o) : News g L h ((d, o) :: rest g h L d) := fun p hp => by
  rcases List.mem_cons.mp hp with rfl | hp
  · exact ⟨h3, h1, h2⟩
  · exact news_all p (List.mem_filter.mp hp).1
/-- behind a rule that changed d alone: all else but the frame is kept -/
theorem kept_of_news {g h h' : Heap} {L d : Addr} {m : Str → Option Value} (k : ∀ b o, g.get? b = some o → h.get? b = some o) (F : Fr g L h' m) (N : News g L h' (rest g h L d)) :
    ∀ b o, b ≠ L → b ≠ d → h.get? b = some o → h'.get? b = some o := fun b o h1 h2 e => by
  cases q : g.get? b with
  | some u =>
    have := k b u q
    rw [e] at this; cases this
    exact F.keep b _ q
  | none => exact (N (b, o) (mem_rest h1 q e h2)).1
end L2

namespace L2
open PySem PySem.Spec PyProof.Rows

/-- the module's facts, over the base: the heap at the law's entry without what is tracked there -/
structure Mod (K : PySem.W.Frag) (mg : Str → Option Value) (base : Heap) : Prop where
  kin : K.In base
  glob : base.Ns mainGlobals mg
  blt : ∃ mb, base.Ns builtinsNs mb ∧ ∀ x : Str, x ≠ "__name__" → mb x = bootBuiltins x
  nolimit : base.NoLimit

/-- the context: a def's body (or a comprehension's block) running. base: fixed through the whole law; s₀, H₀: the entry; outer: the frames whose slots others may change (a def's callers); stack: all frames that run;
   ex: iterators that were made ahead of the entry and are walked here (a comprehension's); fn: the names whose cells were made at the entry (a def: all; a comprehension's block: its own); calm: not within an except suite; pn: pins that every state bears; xe: what is wanted of an exception that leaves the code -/
structure Cx where
  prog : Program
  w : World
  K : PySem.W.Frag
  mg : Str → Option Value
  base : Heap
  A : Around
  N : List Str
  s₀ : Shared
  H₀ : Hp
  env : Env
  outer : List Env
  stack : List Env
  ex : List Addr
  fn : Str → Bool
  calm : Bool
  pn : List (Addr × Obj)
  xe : Value → Shared → Prop
/-- the callers' frames -/
def frs (l : List Env) : List Addr := l.filterMap (·.frame)
abbrev Cx.fs (X : Cx) : List Addr := frs X.outer

def Vis (sc : Scope) (x : Str) : Prop := sc.names.lookup x = some .local ∨ sc.names.lookup x = some .cell ∨ sc.names.lookup x = some .free
def Loc (sc : Scope) (x : Str) : Prop := sc.names.lookup x = some .local ∨ sc.names.lookup x = some .cell
def Look (env : Env) (h : Heap) (m : Str → Option Value) (x : Str) (u : Value) : Prop :=
  (env.kindOf x = some .local ∧ m x = some u) ∨ ((env.kindOf x = some .cell ∨ env.kindOf x = some .free) ∧ ∃ c, env.cells.lookup x = some c ∧ h.IsCell c (some u))

structure Cx.Ok (X : Cx) : Prop where
  mod : Mod X.K X.mg X.base
  kind : X.env.scope.kind = .function
  glob : X.env.globals = mainGlobals
  blt : X.env.builtins = builtinsNs
  above : X.s₀.heap.objs.size ≤ X.env.locals
  inj : ∀ x y c, X.env.cells.lookup x = some c → X.env.cells.lookup y = some c → x = y
  has : ∀ x, (X.env.kindOf x = some .cell ∨ X.env.kindOf x = some .free) → ∃ c, X.env.cells.lookup x = some c
  cab : ∀ x c, X.fn x = true → X.env.cells.lookup x = some c → X.s₀.heap.objs.size ≤ c
  hd : X.calm = true → X.A.handled = none
  frames : X.A.frames = some X.stack
  stk : X.stack = X.outer ∨ (X.stack = X.env :: X.outer ∧ X.env.frame = some X.env.locals)
  exf : ∀ b ∈ X.ex, b ≠ X.env.locals ∧ ∀ x c, X.env.cells.lookup x = some c → c ≠ b
  bs : ∀ b o, X.base.get? b = some o → X.s₀.heap.get? b = some o ∧ X.H₀ b = none
  bsz : X.base.objs.size ≤ X.s₀.heap.objs.size
  noex : ∀ b o, X.base.get? b = some o → b ∉ X.ex
  exfs : ∀ b ∈ X.ex, b ∉ X.fs
  funs : X.s₀.heap.FunFrames X.base X.outer
  frf : ∀ b ∈ X.fs, X.H₀ b = none

structure Inv (X : Cx) (pins : List (Addr × Obj)) (σ : List (Option V)) (H : Hp) (s : Shared) : Prop where
  ok : X.Ok
  os : s.os = X.s₀.os
  bare : AllBare s.gens
  base : Un X.fs X.ex X.H₀ H X.s₀.heap s.heap
  loc : ∃ m, s.heap.Ns X.env.locals m ∧ ∀ (i : Nat) (x : Str) (v : V), X.N[i]? = some x → σ[i]? = some (some v) → Vis X.env.scope x → ∃ u, RelV v u ∧ Look X.env s.heap m x u
  cell : ∀ x c, X.env.cells.lookup x = some c → ∃ v, s.heap.IsCell c v
  free : H X.env.locals = none
  freeC : ∀ x c, X.env.cells.lookup x = some c → H c = none
  pin : ∀ p ∈ X.pn ++ pins, s.heap.get? p.1 = some p.2 ∧ H p.1 = none ∧ p.1 ≠ X.env.locals ∧ p.1 ∉ X.fs ∧ ∀ v, p.2.data ≠ .cell v
  hok : HOk X.prog X.w H s.heap
  len : σ.length = X.N.length

section
variable {X : Cx} {pins : List (Addr × Obj)} {σ : List (Option V)} {H H' : Hp} {s : Shared} {h' : Heap}

theorem Cx.Ok.nofr (ok : X.Ok) {b : Addr} {o : Obj} (e : X.base.get? b = some o) : b ∉ X.fs := fun hb => by
  have := (ok.funs.mem hb).1
  rw [e] at this; cases this
theorem Inv.bs (I : Inv X pins σ H s) : ∀ b o, X.base.get? b = some o → s.heap.get? b = some o ∧ H b = none := fun b o e =>
  ⟨I.base.keep b o (I.ok.bs b o e).1 (I.ok.bs b o e).2 (I.ok.nofr e) (I.ok.noex b o e), I.base.free b o (I.ok.bs b o e).1 (I.ok.bs b o e).2 (I.ok.noex b o e)⟩
theorem Inv.bk (I : Inv X pins σ H s) : ∀ b o, X.base.get? b = some o → s.heap.get? b = some o := fun b o e => (I.bs b o e).1
theorem Inv.mod (I : Inv X pins σ H s) : Mod X.K X.mg X.base := I.ok.mod
theorem Inv.kIn (I : Inv X pins σ H s) : X.K.In s.heap := I.ok.mod.kin.keeps I.bk
theorem Inv.nolimit (I : Inv X pins σ H s) : s.heap.NoLimit := I.ok.mod.nolimit.keeps I.bk
/-- the frame over the base: for OpenK's rules (K.In X.base is I.mod.kin) -/
theorem Inv.fr (I : Inv X pins σ H s) : ∃ m, Fr X.base X.env.locals s.heap m :=
  let ⟨m, hn, _⟩ := I.loc
  ⟨m, hn, I.bk, Nat.le_trans I.ok.bsz I.ok.above⟩
theorem Inv.lt (I : Inv X pins σ H s) : X.env.locals < s.heap.objs.size := let ⟨_, hn, _⟩ := I.loc; hn.lt
theorem Inv.sz (I : Inv X pins σ H s) : X.s₀.heap.objs.size ≤ s.heap.objs.size := Nat.le_trans I.ok.above (Nat.le_of_lt I.lt)
theorem Inv.nofs (I : Inv X pins σ H s) {a : Addr} (h : s.heap.objs.size ≤ a) : a ∉ X.fs := fun hb => by
  obtain ⟨_, o, ho, _⟩ := I.ok.funs.mem hb
  exact absurd (Nat.lt_of_lt_of_le (Heap.lt_size ho) (Nat.le_trans I.sz h)) (Nat.lt_irrefl _)
theorem Inv.cne (I : Inv X pins σ H s) : ∀ x c, X.env.cells.lookup x = some c → c ≠ X.env.locals := fun x c e z => by
  obtain ⟨v, o, ho, hd⟩ := I.cell x c e
  obtain ⟨m, ⟨o', es, ep, ho', hd', _⟩, _⟩ := I.loc
  rw [z, ho'] at ho; cases ho; rw [hd'] at hd; cases hd
theorem Inv.funs (I : Inv X pins σ H s) : s.heap.FunFrames X.base X.outer := by
  have all : ∀ (l : List Env), (∀ b ∈ frs l, b ∈ X.fs) → X.s₀.heap.FunFrames X.base l → s.heap.FunFrames X.base l := by
    intro l
    induction l with
    | nil => intro _ _; trivial
    | cons env r ih =>
      intro hs hl
      obtain ⟨hk, ⟨L, o, hf, hn, ho, hd⟩, hr⟩ := hl
      have hL : L ∈ X.fs := hs L (by unfold frs; rw [List.filterMap_cons, hf]; exact List.mem_cons_self)
      obtain ⟨sl, e⟩ := I.base.slot L o ho (I.ok.frf L hL) hL fun z => I.ok.exfs L z hL
      exact ⟨hk, ⟨L, _, hf, hn, e, hd⟩, ih (fun b hb => hs b (by unfold frs; rw [List.filterMap_cons, hf]; exact List.mem_cons_of_mem _ hb)) hr⟩
  exact all X.outer (fun _ hb => hb) I.ok.funs

/-- the frames that run, for a call -/
theorem Inv.stack (I : Inv X pins σ H s) : s.heap.FunFrames X.base X.stack := by
  rcases I.ok.stk with e | ⟨e, hf⟩
  · rw [e]; exact I.funs
  · rw [e]
    obtain ⟨m, hn, _⟩ := I.loc
    refine .cons (by rw [I.ok.kind]; decide) hf hn ?_ I.funs
    exact Heap.get?_none_of_le (Nat.le_trans I.ok.bsz I.ok.above)
theorem Inv.stkSub (I : Inv X pins σ H s) : ∀ b ∈ frs X.stack, b ∈ X.env.locals :: X.fs := fun b hb => by
  rcases I.ok.stk with e | ⟨e, hf⟩
  · rw [e] at hb; exact List.mem_cons_of_mem _ hb
  · rw [e] at hb
    unfold frs at hb
    rw [List.filterMap_cons, hf] at hb
    exact hb
theorem Inv.stkFree (I : Inv X pins σ H s) : ∀ b ∈ frs X.stack, H b = none := fun b hb => by
  rcases List.mem_cons.mp (I.stkSub b hb) with e | hb
  · rw [e]; exact I.free
  · obtain ⟨_, o, ho, _⟩ := I.ok.funs.mem hb
    exact I.base.free b o ho (I.ok.frf b hb) fun z => I.ok.exfs b z hb

/-- THE STEP: the untracked objects but the frame and the records at ch are kept (the callers' frames up to slots), the frame's map is kept, the new abstract heap is held -/
theorem Inv.step {g' : Array GenState} {t' : Nat} {d' : Drawn} {ch : List Addr} (I : Inv X pins σ H s)
    (hch : ∀ b ∈ ch, (b ∈ X.ex ∨ X.s₀.heap.objs.size ≤ b) ∧ b ≠ X.env.locals ∧ (∀ x c, X.env.cells.lookup x = some c → c ≠ b) ∧ ∀ p ∈ X.pn ++ pins, p.1 ≠ b)
    (keep : ∀ b o, b ≠ X.env.locals → b ∉ X.fs → b ∉ ch → s.heap.get? b = some o → H b = none → h'.get? b = some o)
    (slot : ∀ b o, b ≠ X.env.locals → b ∈ X.fs → b ∉ ch → s.heap.get? b = some o → H b = none → ∃ sl, h'.get? b = some { o with slots := sl }) (free : ∀ b o, b ∉ ch → s.heap.get? b = some o → H b = none → H' b = none)
    (there : ∀ b o, b ∉ ch → s.heap.get? b = some o → ∃ o', h'.get? b = some o')
    (tups : ∀ b xs, H b = some (.tup xs) → H' b = some (.tup xs)) (frzs : ∀ b o u, H b = some (.frz o u) → H' b = some (.frz o u)) (tbls : ∀ b ps, H b = some (.tbl ps) → ∃ more, H' b = some (.tbl (ps ++ more)))
    (ns : ∀ m, s.heap.Ns X.env.locals m → h'.Ns X.env.locals m) (hok : HOk X.prog X.w H' h') (hg : AllBare g') :
    Inv X pins σ H' { s with heap := h', gens := g', drawn := d', toks := t' } := by
  have neL : ∀ b o, X.s₀.heap.get? b = some o → b ≠ X.env.locals := fun b o e => Nat.ne_of_lt (Nat.lt_of_lt_of_le (Heap.lt_size e) I.ok.above)
  have neC : ∀ b o, X.s₀.heap.get? b = some o → b ∉ X.ex → b ∉ ch := fun b o e hx hb => by
    rcases (hch b hb).1 with z | z
    · exact hx z
    · exact absurd (Nat.lt_of_lt_of_le (Heap.lt_size e) z) (Nat.lt_irrefl _)
  have cellK : ∀ x c, X.env.cells.lookup x = some c → ∀ v, s.heap.IsCell c v → h'.IsCell c v := fun x c e v ⟨o, ho, hd⟩ => by
    have nch : c ∉ ch := fun z => (hch c z).2.2.1 x c e rfl
    by_cases hc : c ∈ X.fs
    · obtain ⟨sl, q⟩ := slot c o (I.cne x c e) hc nch ho (I.freeC x c e)
      exact ⟨_, q, hd⟩
    · exact ⟨o, keep c o (I.cne x c e) hc nch ho (I.freeC x c e), hd⟩
  refine ⟨I.ok, I.os, hg, ⟨fun b o e n hb hx => ?_, fun b o e n hb hx => ?_, fun b o e n hx => ?_, fun b o e hx => ?_, fun b xs e => tups b xs (I.base.tups b xs e), fun b o xs e => frzs b o xs (I.base.frzs b o xs e), fun b ps e => ?_⟩, ?_, fun x c e => ?_, ?_, fun x c e => ?_, fun p hp => ?_, hok, I.len⟩
  · exact keep b o (neL b o e) hb (neC b o e hx) (I.base.keep b o e n hb hx) (I.base.free b o e n hx)
  · obtain ⟨sl, e1⟩ := I.base.slot b o e n hb hx
    obtain ⟨sl', e2⟩ := slot b _ (neL b o e) hb (neC b o e hx) e1 (I.base.free b o e n hx)
    exact ⟨sl', e2⟩
  · obtain ⟨o', e1⟩ := I.base.there b o e hx
    exact free b o' (neC b o e hx) e1 (I.base.free b o e n hx)
  · obtain ⟨o', e1⟩ := I.base.there b o e hx
    exact there b o' (neC b o e hx) e1
  · obtain ⟨m1, e1⟩ := I.base.tbls b ps e
    obtain ⟨m2, e2⟩ := tbls b _ e1
    exact ⟨m1 ++ m2, by rw [e2, Array.append_assoc]⟩
  · obtain ⟨m, hn, hl⟩ := I.loc
    refine ⟨m, ns m hn, fun i x v e1 e2 e3 => ?_⟩
    obtain ⟨u, r, l⟩ := hl i x v e1 e2 e3
    refine ⟨u, r, ?_⟩
    rcases l with l | ⟨k, c, e, z⟩
    · exact .inl l
    · exact .inr ⟨k, c, e, cellK x c e _ z⟩
  · obtain ⟨v, z⟩ := I.cell x c e
    exact ⟨v, cellK x c e v z⟩
  · obtain ⟨m, ⟨o, _, _, ho, _⟩, _⟩ := I.loc
    exact free _ o (fun z => (hch _ z).2.1 rfl) ho I.free
  · obtain ⟨v, o, ho, hd⟩ := I.cell x c e
    exact free c o (fun z => (hch c z).2.2.1 x c e rfl) ho (I.freeC x c e)
  · obtain ⟨e, n, ne, nf, d⟩ := I.pin p hp
    have nch : p.1 ∉ ch := fun z => (hch p.1 z).2.2.2 p hp rfl
    exact ⟨keep p.1 p.2 ne nf nch e n, free p.1 p.2 nch e n, ne, nf, d⟩
/-- .. where the frame's own object is kept too -/
theorem Inv.un {t' : Nat} (I : Inv X pins σ H s) (u : Un X.fs [] H H' s.heap h') (hok : HOk X.prog X.w H' h') : Inv X pins σ H' { s with heap := h', toks := t' } := by
  obtain ⟨m, ⟨o, es, ep, ho, r⟩, _⟩ := id I.loc
  obtain ⟨sl, hL⟩ := u.any ho I.free (by simp)
  exact I.step (g' := s.gens) (d' := s.drawn) (ch := []) (fun _ z => nomatch z) (fun b o _ hb _ e n => u.keep b o e n hb (by simp)) (fun b o _ hb _ e n => u.slot b o e n hb (by simp)) (fun b o _ e n => u.free b o e n (by simp)) (fun b o _ e => u.there b o e (by simp)) u.tups u.frzs u.tbls (fun m' hm => by
    obtain ⟨o', es', ep', ho', r'⟩ := hm
    rw [ho] at ho'; cases ho'
    exact ⟨_, es', ep', hL, r'⟩) hok I.bare
/-- behind a call (or a comprehension's block): the slots of this frame may have changed too, the records at ch may have turned -/
theorem Inv.call {g' : Array GenState} {t' : Nat} {d' : Drawn} {ch : List Addr} (I : Inv X pins σ H s) (u : Un (frs X.stack) ch H H' s.heap h') (hok : HOk X.prog X.w H' h') (hg : AllBare g')
    (hch : ∀ b ∈ ch, (b ∈ X.ex ∨ X.s₀.heap.objs.size ≤ b) ∧ b ≠ X.env.locals ∧ (∀ x c, X.env.cells.lookup x = some c → c ≠ b) ∧ ∀ p ∈ X.pn ++ pins, p.1 ≠ b) :
    Inv X pins σ H' { s with heap := h', gens := g', drawn := d', toks := t' } := by
  obtain ⟨m, ⟨o, es, ep, ho, r⟩, _⟩ := id I.loc
  obtain ⟨sl, hL⟩ := u.any ho I.free fun z => (hch _ z).2.1 rfl
  exact I.step (ch := ch) hch (fun b o hL hb hc e n => u.keep b o e n (fun z => (List.mem_cons.mp (I.stkSub b z)).elim hL hb) hc) (fun b o _ _ hc e n => u.any e n hc) (fun b o hc e n => u.free b o e n hc) (fun b o hc e => u.there b o e hc) u.tups u.frzs u.tbls (fun m' hm => by
    obtain ⟨o', es', ep', ho', r'⟩ := hm
    rw [ho] at ho'; cases ho'
    exact ⟨_, es', ep', hL, r'⟩) hok hg
/-- an untracked record of ours (an iterator) has turned -/
theorem Inv.turned {t' : Nat} {it : Addr} (I : Inv X pins σ H s) (k : ∀ b o, b ≠ it → s.heap.get? b = some o → h'.get? b = some o) (hn : H it = none) (hL : it ≠ X.env.locals)
    (h1 : it ∈ X.ex ∨ X.s₀.heap.objs.size ≤ it) (h2 : ∀ x c, X.env.cells.lookup x = some c → c ≠ it) (h3 : ∀ p ∈ X.pn ++ pins, p.1 ≠ it) : Inv X pins σ H { s with heap := h', toks := t' } := by
  have nit : ∀ b u, H b = some u → b ≠ it := fun b u e z => by rw [z, hn] at e; cases e
  refine I.step (g' := s.gens) (d' := s.drawn) (ch := [it]) (fun b hb => ?_) (fun b o _ _ hc e _ => k b o (fun z => hc (by simp [z])) e) (fun b o _ _ hc e _ => ⟨o.slots, k b o (fun z => hc (by simp [z])) e⟩) (fun _ _ _ _ n => n)
    (fun b o hc e => ⟨o, k b o (fun z => hc (by simp [z])) e⟩) (fun _ _ e => e) (fun _ _ _ e => e) (fun b ps e => ⟨#[], by rw [e]; simp⟩) (fun m hm => ?_) (fun b u e => ?_) I.bare
  · have e : b = it := by simpa using hb
    subst e
    exact ⟨h1, hL, h2, h3⟩
  · obtain ⟨o, es, ep, ho, r⟩ := hm
    exact ⟨o, es, ep, k _ o (Ne.symm hL) ho, r⟩
  · refine (I.hok b u e).stay (fun c v hc q => k c v ?_ q) (fun _ q => q) fun _ _ q => q
    rcases hc with z | z
    · rw [z]; exact nit b u e
    · exact nit c _ z
theorem Inv.tok (I : Inv X pins σ H s) (t : Nat) : Inv X pins σ H { s with toks := t } := I.un (h' := s.heap) (t' := t) Un.refl I.hok
/-- all objects kept -/
theorem Inv.kept {t' : Nat} (I : Inv X pins σ H s) (k : ∀ b u, s.heap.get? b = some u → h'.get? b = some u) : Inv X pins σ H { s with heap := h', toks := t' } := I.un (Un.kept k) (I.hok.kept k)
/-- a new object laid and tracked -/
theorem Inv.laid {a : Addr} {o : HO} {t' : Nat} (I : Inv X pins σ H s) (k : ∀ b u, s.heap.get? b = some u → h'.get? b = some u) (hp : s.heap.objs.size ≤ a) (new : ObjOk X.prog X.w (upd H a o) h' a o) :
    Inv X pins σ (upd H a o) { s with heap := h', toks := t' } := I.un (Un.laid k hp (I.hok.fresh hp)) (I.hok.laid k hp new)
/-- an object written -/
theorem Inv.write {x e : Addr} {o : HO} {t' : Nat} (I : Inv X pins σ H s) (mu : Mut (H x)) (he : e = x ∨ H e = some (.own x)) (k : ∀ b u, b ≠ e → s.heap.get? b = some u → h'.get? b = some u) (heo : ∃ u, h'.get? e = some u)
    (new : ObjOk X.prog X.w (upd H x o) h' x o) : Inv X pins σ (upd H x o) { s with heap := h', toks := t' } := I.un (Un.write mu he k heo) (I.hok.write mu he k heo new)
/-- forgetting slots, pins -/
theorem Inv.weak {σ' : List (Option V)} (I : Inv X pins σ H s) (hl : σ'.length = σ.length) (w : ∀ (i : Nat) v, σ'[i]? = some (some v) → σ[i]? = some (some v)) : Inv X pins σ' H s :=
  ⟨I.ok, I.os, I.bare, I.base, let ⟨m, hn, hl'⟩ := I.loc; ⟨m, hn, fun i x v e1 e2 e3 => hl' i x v e1 (w i v e2) e3⟩, I.cell, I.free, I.freeC, I.pin, I.hok, hl.trans I.len⟩
theorem Inv.pins_of {pins' : List (Addr × Obj)} (I : Inv X pins σ H s) (h : ∀ p ∈ pins', s.heap.get? p.1 = some p.2 ∧ H p.1 = none ∧ p.1 ≠ X.env.locals ∧ p.1 ∉ X.fs ∧ ∀ v, p.2.data ≠ .cell v) : Inv X pins' σ H s :=
  ⟨I.ok, I.os, I.bare, I.base, I.loc, I.cell, I.free, I.freeC, fun p hp => (List.mem_append.mp hp).elim (fun z => I.pin p (List.mem_append_left _ z)) (h p), I.hok, I.len⟩

theorem nodup_ix {N : List Str} (hN : N.Nodup) {i j : Nat} {x : Str} (a : N[i]? = some x) (b : N[j]? = some x) : i = j := by
  obtain ⟨h1, e1⟩ := List.getElem?_eq_some_iff.mp a
  obtain ⟨h2, e2⟩ := List.getElem?_eq_some_iff.mp b
  exact (List.getElem_inj hN).mp (e1.trans e2.symm)

/-- a name is stored; what changed -/
theorem store_ok2 {M : Model} {A : Around} {E : Value → Shared → Prop} {i : Nat} {x : Str} {v : V} {u : Value} {Q : Unit → Shared → Prop} (I : Inv X pins σ H s) (hN : X.N.Nodup) (hi : X.N[i]? = some x) (hx : Loc X.env.scope x) (r : RelV v u)
    (h : ∀ s', Inv X pins (σ.set i (some v)) H s' → (∃ a, Heap.SameBut a s.heap s'.heap ∧ (a = X.env.locals ∨ X.env.cells.lookup x = some a)) → Q () s') (hf : X.fn x = true ∨ X.env.scope.names.lookup x = some .local := by first | exact .inl rfl | exact .inr rfl | assumption) : wpAny M A (storeName X.env x u) Q E s := by
  obtain ⟨m, hn, hl⟩ := id I.loc
  have hcls : (X.env.scope.kind == .class || (X.env.scope.kind == .module && X.env.locals != X.env.globals)) = false := by rw [I.ok.kind]; rfl
  have hiσ : i < σ.length := by rw [I.len]; exact (List.getElem?_eq_some_iff.mp hi).1
  have cne := I.cne
  have tracked : ∀ {a : Addr} {h' : Heap}, (∃ o, s.heap.get? a = some o ∧ H a = none) → Heap.SameBut a s.heap h' → HOk X.prog X.w H h' := fun {a h'} ha hs b ob e => by
    obtain ⟨_, _, hfree⟩ := ha
    refine (I.hok b ob e).stay (fun c w' hc q => (hs.2 c ?_).trans q) (fun _ q => q) fun _ _ q => q
    rintro rfl
    rcases hc with rfl | hc
    · rw [hfree] at e; cases e
    · rw [hfree] at hc; cases hc
  rcases hx with hk | hk
  · refine wpAny_storeName_local hk hn (fun h' hn' hs => ?_) hcls
    obtain ⟨oL, _, _, hoL, _⟩ := id hn
    refine h _ ⟨I.ok, I.os, I.bare, ⟨fun b o e n hb hx => ?_, fun b o e n hb hx => ?_, I.base.free, fun b o e hx => ?_, I.base.tups, I.base.frzs, I.base.tbls⟩, ⟨_, hn', fun j y v' e1 e2 e3 => ?_⟩, fun y c e => ?_, I.free, I.freeC, fun p hp => ?_, tracked ⟨oL, hoL, I.free⟩ hs, by simpa using I.len⟩ ⟨_, hs, .inl rfl⟩
    · exact (hs.2 b (Nat.ne_of_lt (Nat.lt_of_lt_of_le (Heap.lt_size e) I.ok.above))).trans (I.base.keep b o e n hb hx)
    · obtain ⟨sl, e1⟩ := I.base.slot b o e n hb hx
      exact ⟨sl, (hs.2 b (Nat.ne_of_lt (Nat.lt_of_lt_of_le (Heap.lt_size e) I.ok.above))).trans e1⟩
    · obtain ⟨o', e1⟩ := I.base.there b o e hx
      exact ⟨o', (hs.2 b (Nat.ne_of_lt (Nat.lt_of_lt_of_le (Heap.lt_size e) I.ok.above))).trans e1⟩
    · by_cases hj : j = i
      · subst hj
        rw [hi] at e1; cases e1
        rw [List.getElem?_set_self hiσ] at e2
        cases e2
        exact ⟨u, r, .inl ⟨hk, by simp⟩⟩
      · rw [List.getElem?_set_ne (Ne.symm hj)] at e2
        obtain ⟨u', r', q⟩ := hl j y v' e1 e2 e3
        refine ⟨u', r', ?_⟩
        rcases q with ⟨k, e⟩ | ⟨k, c, e, z⟩
        · refine .inl ⟨k, ?_⟩
          have : y ≠ x := fun e => hj (nodup_ix hN e1 (e ▸ hi))
          simp [this, e]
        · exact .inr ⟨k, c, e, z.sameBut hs (cne y c e)⟩
    · obtain ⟨w', z⟩ := I.cell y c e
      exact ⟨w', z.sameBut hs (cne y c e)⟩
    · obtain ⟨e, n, ne, nf, d⟩ := I.pin p hp
      exact ⟨(hs.2 p.1 ne).trans e, n, ne, nf, d⟩
  · have hfn : X.fn x = true := by
      rcases hf with z | z
      · exact z
      · rw [z] at hk; cases hk
    obtain ⟨c, hc⟩ := I.ok.has x (.inl hk)
    obtain ⟨w', z⟩ := I.cell x c hc
    refine wpAny_storeName_cell I.ok.kind hk hc z (fun h' hc' hs => ?_)
    obtain ⟨oc, hoc, hocd⟩ := id z
    refine h { s with heap := h' } ⟨I.ok, I.os, I.bare, ⟨fun b o e n hb hx => ?_, fun b o e n hb hx => ?_, I.base.free, fun b o e hx => ?_, I.base.tups, I.base.frzs, I.base.tbls⟩, ⟨m, hn.sameBut hs (Ne.symm (cne x c hc)), fun j y v' e1 e2 e3 => ?_⟩, fun y c' e => ?_, I.free, I.freeC, fun p hp => ?_, tracked ⟨oc, hoc, I.freeC x c hc⟩ hs, by simpa using I.len⟩ ⟨c, hs, .inr hc⟩
    · exact (hs.2 b (Nat.ne_of_lt (Nat.lt_of_lt_of_le (Heap.lt_size e) (I.ok.cab x c hfn hc)))).trans (I.base.keep b o e n hb hx)
    · obtain ⟨sl, e1⟩ := I.base.slot b o e n hb hx
      exact ⟨sl, (hs.2 b (Nat.ne_of_lt (Nat.lt_of_lt_of_le (Heap.lt_size e) (I.ok.cab x c hfn hc)))).trans e1⟩
    · obtain ⟨o', e1⟩ := I.base.there b o e hx
      exact ⟨o', (hs.2 b (Nat.ne_of_lt (Nat.lt_of_lt_of_le (Heap.lt_size e) (I.ok.cab x c hfn hc)))).trans e1⟩
    · by_cases hj : j = i
      · subst hj
        rw [hi] at e1; cases e1
        rw [List.getElem?_set_self hiσ] at e2
        cases e2
        exact ⟨u, r, .inr ⟨.inl hk, c, hc, hc'⟩⟩
      · rw [List.getElem?_set_ne (Ne.symm hj)] at e2
        obtain ⟨u', r', q⟩ := hl j y v' e1 e2 e3
        refine ⟨u', r', ?_⟩
        rcases q with q | ⟨k, c', e, z'⟩
        · exact .inl q
        · refine .inr ⟨k, c', e, z'.sameBut hs ?_⟩
          rintro rfl
          exact hj (nodup_ix hN e1 (I.ok.inj _ _ _ e hc ▸ hi))
    · by_cases hcc : c' = c
      · subst hcc; exact ⟨_, hc'⟩
      · obtain ⟨w2, z2⟩ := I.cell y c' e
        exact ⟨w2, z2.sameBut hs hcc⟩
    · obtain ⟨e, n, ne, nf, d⟩ := I.pin p hp
      refine ⟨(hs.2 p.1 ?_).trans e, n, ne, nf, d⟩
      intro q
      rw [q, hoc] at e
      have q' : oc = p.2 := Option.some.inj e
      exact d w' (by rw [← q']; exact hocd)
theorem store_ok {M : Model} {A : Around} {E : Value → Shared → Prop} {i : Nat} {x : Str} {v : V} {u : Value} {Q : Unit → Shared → Prop} (I : Inv X pins σ H s) (hN : X.N.Nodup) (hi : X.N[i]? = some x) (hx : Loc X.env.scope x) (r : RelV v u)
    (h : ∀ s', Inv X pins (σ.set i (some v)) H s' → Q () s') (hf : X.fn x = true ∨ X.env.scope.names.lookup x = some .local := by first | exact .inl rfl | exact .inr rfl | assumption) : wpAny M A (storeName X.env x u) Q E s :=
  store_ok2 I hN hi hx r (fun s' I' _ => h s' I') hf
/-- behind a call or a block, the state as it is -/
theorem Inv.call' {s' : Shared} {ch : List Addr} (I : Inv X pins σ H s) (ho : s'.os = s.os) (u : Un (frs X.stack) ch H H' s.heap s'.heap) (hok : HOk X.prog X.w H' s'.heap) (hg : AllBare s'.gens)
    (hch : ∀ b ∈ ch, (b ∈ X.ex ∨ X.s₀.heap.objs.size ≤ b) ∧ b ≠ X.env.locals ∧ (∀ x c, X.env.cells.lookup x = some c → c ≠ b) ∧ ∀ p ∈ X.pn ++ pins, p.1 ≠ b) : Inv X pins σ H' s' := by
  obtain ⟨h', g', d', t', o'⟩ := s'
  have e : o' = s.os := ho
  subst e
  exact I.call (g' := g') (t' := t') (d' := d') u hok hg hch
end

/-! ### the judgements -/
/-- an exception: its class, its own dict's address (where it has one), the abstract heap behind it -/
abbrev XK := Value → Option Addr → Hp → Prop
abbrev St := List (Option V)
abbrev VK := V → Hp → Prop
/-- an expression's reading; a test's; an argument list's -/
abbrev TE := St → Hp → VK → Prop
abbrev TT := St → Hp → (Bool → Hp → Prop) → Prop
abbrev TA := St → Hp → (List V → Hp → Prop) → Prop
/-- what is wanted behind a statement -/
structure Ends where
  nx : St → Hp → Prop
  rt : VK
  bk : St → Hp → Prop := fun _ _ => False
  ct : St → Hp → Prop := fun _ _ => False
abbrev TS := Ends → St → Hp → Prop

def EP (X : Cx) (pins : List (Addr × Obj)) (σ : St) (Q : VK) (u : Value) (s' : Shared) : Prop := ∃ v H', Inv X pins σ H' s' ∧ RelV v u ∧ Q v H'
def TP (X : Cx) (pins : List (Addr × Obj)) (σ : St) (Q : Bool → Hp → Prop) (b : Bool) (s' : Shared) : Prop := ∃ H', Inv X pins σ H' s' ∧ Q b H'
def AP (X : Cx) (pins : List (Addr × Obj)) (σ : St) (Q : List V → Hp → Prop) (us : List Value) (s' : Shared) : Prop := ∃ vs H', Inv X pins σ H' s' ∧ Vals vs us ∧ Q vs H'
def SP (X : Cx) (pins : List (Addr × Obj)) (D : Ends) (f : Flow) (s' : Shared) : Prop :=
  match f with
  | .next => ∃ σ' H', Inv X pins σ' H' s' ∧ D.nx σ' H'
  | .brk => ∃ σ' H', Inv X pins σ' H' s' ∧ D.bk σ' H'
  | .cont => ∃ σ' H', Inv X pins σ' H' s' ∧ D.ct σ' H'
  | .ret u => ∃ v σ' H', Inv X pins σ' H' s' ∧ RelV v u ∧ D.rt v H'

def PE (X : Cx) (e : Expr) (t : TE) : Prop :=
  ∀ (pins : List (Addr × Obj)) (s : Shared) (σ : St) (H : Hp) (Q : VK), Inv X pins σ H s → t σ H Q → wpAny (model X.prog X.w) X.A (eval e X.env) (EP X pins σ Q) X.xe s
def PT (X : Cx) (e : Expr) (t : TT) : Prop :=
  ∀ (pins : List (Addr × Obj)) (s : Shared) (σ : St) (H : Hp) (Q : Bool → Hp → Prop), Inv X pins σ H s → t σ H Q → wpAny (model X.prog X.w) X.A (isTrue e X.env (eval e X.env)) (TP X pins σ Q) X.xe s
/-- a test whatever its 'whole' is (and, or) -/
def PW (X : Cx) (e : Expr) (t : TT) : Prop :=
  ∀ (whole : Sem Value) (pins : List (Addr × Obj)) (s : Shared) (σ : St) (H : Hp) (Q : Bool → Hp → Prop), Inv X pins σ H s → t σ H Q → wpAny (model X.prog X.w) X.A (isTrue e X.env whole) (TP X pins σ Q) X.xe s
theorem PW.pt {X : Cx} {e : Expr} {t : TT} (h : PW X e t) : PT X e t := h _
/-- an argument list (no star), from the left -/
def PA (X : Cx) (es : List Expr) (t : TA) : Prop :=
  ∀ (pos : Pos) (pins : List (Addr × Obj)) (s : Shared) (σ : St) (H : Hp) (Q : List V → Hp → Prop), Inv X pins σ H s → t σ H Q → wpAny (model X.prog X.w) X.A (spliced (backTo pos (starEach es X.env))) (AP X pins σ Q) X.xe s
def PS (X : Cx) (st : Stmt) (t : TS) : Prop :=
  ∀ (pins : List (Addr × Obj)) (s : Shared) (σ : St) (H : Hp) (D : Ends), Inv X pins σ H s → t D σ H → wpAny (model X.prog X.w) X.A (exec st X.env) (SP X pins D) X.xe s
def PSs (X : Cx) (st : List Stmt) (t : TS) : Prop :=
  ∀ (pins : List (Addr × Obj)) (s : Shared) (σ : St) (H : Hp) (D : Ends), Inv X pins σ H s → t D σ H → wpAny (model X.prog X.w) X.A (execs st X.env) (SP X pins D) X.xe s
/-- weaken the end -/
theorem thn {α : Type} {t : Sem α} {Q Q' : α → Shared → Prop} {M : Model} {A : Around} {E : Value → Shared → Prop} {s : Shared} (h : wpAny M A t Q E s) (hQ : ∀ a s, Q a s → Q' a s) : wpAny M A t Q' E s := wpAny_mono h hQ fun _ _ x => x
end L2

namespace L2
open PySem PySem.Spec PyProof.Rows
section
variable {X : Cx}

/-- two expressions in a row -/
theorem bin {a b : Expr} {ta tb : TE} (ha : PE X a ta) (hb : PE X b tb) {pins : List (Addr × Obj)} {s : Shared} {σ : St} {H : Hp} {R : V → V → Hp → Prop} (I : Inv X pins σ H s) (h : ta σ H fun x H1 => tb σ H1 fun y H2 => R x y H2)
    {α : Type} {Q : α → Shared → Prop} {f : Value → Value → Sem α}
    (hf : ∀ v u s2 x y H2, Inv X pins σ H2 s2 → RelV x v → RelV y u → R x y H2 → wpAny (model X.prog X.w) X.A (f v u) Q X.xe s2) :
    wpAny (model X.prog X.w) X.A (eval a X.env) (fun v s₁ => wpAny (model X.prog X.w) X.A (eval b X.env) (fun u s₂ => wpAny (model X.prog X.w) X.A (f v u) Q X.xe s₂) X.xe s₁) X.xe s := by
  refine thn (ha pins s σ H _ I h) fun v s1 ⟨x, H1, I1, r1, q1⟩ => ?_
  refine thn (hb pins s1 σ H1 _ I1 q1) fun u s2 ⟨y, H2, I2, r2, q2⟩ => ?_
  exact hf v u s2 x y H2 I2 r1 r2 q2

/-! ### names and constants -/
def tVar (i : Nat) : TE := fun σ H Q => ∃ v, σ[i]? = some (some v) ∧ Q v H
def tC (v : V) : TE := fun _ H Q => Q v H
theorem pe_var {i : Nat} {x : Str} {pos : Pos} (hN : X.N[i]? = some x) (hv : Vis X.env.scope x) (hd : (x == ("__debug__" : Str)) = false := by decide) (hcd : (x == ("__classdict__" : Str)) = false := by decide) : PE X (.Name x pos) (tVar i) := by
  intro pins s σ H Q I h
  obtain ⟨v, e, h⟩ := h
  obtain ⟨m, hn, hl⟩ := I.loc
  obtain ⟨u, r, l⟩ := hl i x v hN e hv
  have fin : EP X pins σ Q u s := ⟨v, H, I, r, h⟩
  rcases l with ⟨hk, hm⟩ | ⟨hk, c, hc, hcell⟩
  · exact wpAny_Name (wpAny_loadName_local I.ok.kind hk hn hm fin) hd
  · rcases hk with hk | hk
    · exact wpAny_Name (wpAny_loadName_cell I.ok.kind hk hc hcell fin) hd
    · exact wpAny_Name (wpAny_loadName_free I.ok.kind hk hc hcell fin hcd) hd
theorem pe_int {i j pos} : PE X (.Constant (.int i) j pos) (tC (.int i)) := fun _ _ _ H _ I h => wpAny_Constant_int ⟨.int i, H, I.tok _, ⟨_, rfl⟩, h⟩
theorem pe_bl {b j pos} : PE X (.Constant (.bool b) j pos) (tC (.bl b)) := fun _ _ _ H _ I h => Constant_bool ⟨.bl b, H, I, rfl, h⟩
theorem pe_non {j pos} : PE X (.Constant .none j pos) (tC .non) := fun _ _ _ H _ I h => Constant_none ⟨.non, H, I, rfl, h⟩
theorem pe_str {x j pos} : PE X (.Constant (.str x) j pos) (tC (.str x)) := fun _ _ _ H _ I h => Calls.Constant_str ⟨.str x, H, I.tok _, ⟨_, rfl⟩, h⟩

/-- a global name of the def -/
def Gl (X : Cx) (x : Str) : Prop := X.env.kindOf x = some .globalImplicit
theorem ld_glob {E : Value → Shared → Prop} {pins : List (Addr × Obj)} {s : Shared} {σ : St} {H : Hp} {x : Str} {u : Value} {pos : Pos} {Q : Value → Shared → Prop} (I : Inv X pins σ H s) (hg : Gl X x) (hm : X.mg x = some u) (h : Q u s)
    (hd : (x == ("__debug__" : Str)) = false := by decide) : wpAny (model X.prog X.w) X.A (eval (.Name x pos) X.env) Q E s :=
  Calls.Name_function_global I.ok.kind hg (Calls.loadGlobal_global (by rw [I.ok.glob]; exact I.mod.glob.keeps I.bk) hm h) hd
theorem ld_blt {E : Value → Shared → Prop} {pins : List (Addr × Obj)} {s : Shared} {σ : St} {H : Hp} {x : Str} {u : Value} {pos : Pos} {Q : Value → Shared → Prop} (I : Inv X pins σ H s) (hg : Gl X x) (hm : X.mg x = none) (hv : bootBuiltins x = some u) (h : Q u s)
    (hn : x ≠ "__name__" := by decide) (hd : (x == ("__debug__" : Str)) = false := by decide) : wpAny (model X.prog X.w) X.A (eval (.Name x pos) X.env) Q E s := by
  obtain ⟨mb, h1, h2⟩ := I.mod.blt
  exact Calls.Name_function_global I.ok.kind hg (Calls.loadGlobal_builtin (by rw [I.ok.glob]; exact I.mod.glob.keeps I.bk) hm (by rw [I.ok.blt]; exact h1.keeps I.bk) ((h2 x hn).trans hv) h) hd
/-- a module's constant, a class, a function, as a value -/
theorem pe_glob {x : Str} {v : V} {u : Value} {pos : Pos} (hg : Gl X x) (hm : X.mg x = some u) (r : RelV v u) (hd : (x == ("__debug__" : Str)) = false := by decide) : PE X (.Name x pos) (tC v) :=
  fun _ _ _ H _ I h => ld_glob I hg hm ⟨v, H, I, r, h⟩ hd
theorem pe_bltn {x : Str} {v : V} {u : Value} {pos : Pos} (hg : Gl X x) (hm : X.mg x = none) (hv : bootBuiltins x = some u) (r : RelV v u) (hn : x ≠ "__name__" := by decide) (hd : (x == ("__debug__" : Str)) = false := by decide) : PE X (.Name x pos) (tC v) :=
  fun _ _ _ H _ I h => ld_blt I hg hm hv ⟨v, H, I, r, h⟩ hn hd

/-! ### arithmetic -/
/-- two ints -/
def t2I (ta tb : TE) (k : Int → Int → Hp → Prop) : St → Hp → Prop := fun σ H => ta σ H fun x H1 => tb σ H1 fun y H2 => ∃ i j, x = .int i ∧ y = .int j ∧ k i j H2
def tAdd (ta tb : TE) : TE := fun σ H Q => t2I ta tb (fun i j H2 => Q (.int (i + j)) H2) σ H
def tSub (ta tb : TE) : TE := fun σ H Q => t2I ta tb (fun i j H2 => Q (.int (i - j)) H2) σ H
/-- the left factor below 2^64 -/
def tMul (ta tb : TE) : TE := fun σ H Q => t2I ta tb (fun i j H2 => (-(2 ^ 64) < i ∧ i < 2 ^ 64) ∧ Q (.int (i * j)) H2) σ H
variable {a b : Expr} {ta tb : TE} {pos : Pos}
theorem pe_add (ha : PE X a ta) (hb : PE X b tb) : PE X (.BinOp a .Add b pos) (tAdd ta tb) := by
  intro pins s σ H Q I h
  refine wpAny_BinOp (bin ha hb I h fun v u s2 x y H2 I2 rx ry q => ?_)
  obtain ⟨i, j, rfl, rfl, q⟩ := q
  obtain ⟨t, rfl⟩ := rx
  obtain ⟨t', rfl⟩ := ry
  exact add_int ⟨.int _, H2, I2.tok _, ⟨_, rfl⟩, q⟩
theorem pe_sub (ha : PE X a ta) (hb : PE X b tb) : PE X (.BinOp a .Sub b pos) (tSub ta tb) := by
  intro pins s σ H Q I h
  refine wpAny_BinOp (bin ha hb I h fun v u s2 x y H2 I2 rx ry q => ?_)
  obtain ⟨i, j, rfl, rfl, q⟩ := q
  obtain ⟨t, rfl⟩ := rx
  obtain ⟨t', rfl⟩ := ry
  exact sub_int ⟨.int _, H2, I2.tok _, ⟨_, rfl⟩, q⟩
theorem pe_mul (ha : PE X a ta) (hb : PE X b tb) : PE X (.BinOp a .Mult b pos) (tMul ta tb) := by
  intro pins s σ H Q I h
  refine wpAny_BinOp (bin ha hb I h fun v u s2 x y H2 I2 rx ry q => ?_)
  obtain ⟨i, j, rfl, rfl, ⟨q1, q2⟩, q⟩ := q
  obtain ⟨t, rfl⟩ := rx
  obtain ⟨t', rfl⟩ := ry
  exact mul_int ⟨.int _, H2, I2.tok _, ⟨_, rfl⟩, q⟩ (.of_left (intBits_le_64 q1 q2))

/-! ### comparisons -/
def PC (X : Cx) (op : CmpOp) (a b : Expr) (t : TE) : Prop :=
  ∀ (pins : List (Addr × Obj)) (s : Shared) (σ : St) (H : Hp) (Q : VK), Inv X pins σ H s → t σ H Q →
    wpAny (model X.prog X.w) X.A (eval a X.env) (fun v s₁ => wpAny (model X.prog X.w) X.A (eval b X.env) (fun u s₂ => wpAny (model X.prog X.w) X.A (compareOp op v u) (EP X pins σ Q) X.xe s₂) X.xe s₁) X.xe s
theorem nobehind (b : Expr) {op : CmpOp} (h : op ≠ .In) (h2 : op ≠ .NotIn) : behindInMarks op b = false := by
  have e1 : (op == CmpOp.In) = false := by cases op <;> first | rfl | exact absurd rfl h
  have e2 : (op == CmpOp.NotIn) = false := by cases op <;> first | rfl | exact absurd rfl h2
  cases b <;> simp [behindInMarks, e1, e2]
def tCmp (p : Int → Int → Bool) (ta tb : TE) : TE := fun σ H Q => t2I ta tb (fun i j H2 => Q (.bl (p i j)) H2) σ H
abbrev tLt : TE → TE → TE := tCmp fun i j => decide (i < j)
abbrev tLe : TE → TE → TE := tCmp fun i j => decide (i ≤ j)
abbrev tGt : TE → TE → TE := tCmp fun i j => decide (j < i)
abbrev tGe : TE → TE → TE := tCmp fun i j => decide (j ≤ i)
abbrev tEqI : TE → TE → TE := tCmp fun i j => decide (i = j)
abbrev tNeI : TE → TE → TE := tCmp fun i j => !decide (i = j)
/-- a comparison of two ints, by its rule -/
theorem pc_int {op : CmpOp} {p : Int → Int → Bool} (ha : PE X a ta) (hb : PE X b tb)
    (rule : ∀ (i j : Int) (t u : Tok) (Q : Value → Shared → Prop) (s : Shared), Q (.bool (p i j)) s → wpAny (model X.prog X.w) X.A (compareOp op (.int i t) (.int j u)) Q X.xe s) : PC X op a b (tCmp p ta tb) := by
  intro pins s σ H Q I h
  refine bin ha hb I h fun v u s2 x y H2 I2 rx ry q => ?_
  obtain ⟨i, j, rfl, rfl, q⟩ := q
  obtain ⟨t, rfl⟩ := rx
  obtain ⟨t', rfl⟩ := ry
  exact rule i j t t' _ s2 ⟨.bl _, H2, I2, rfl, q⟩
theorem pc_lt (ha : PE X a ta) (hb : PE X b tb) : PC X .Lt a b (tLt ta tb) := pc_int ha hb fun _ _ _ _ _ _ h => lt_int h
theorem pc_le (ha : PE X a ta) (hb : PE X b tb) : PC X .LtE a b (tLe ta tb) := pc_int ha hb fun _ _ _ _ _ _ h => le_int h
theorem pc_gt (ha : PE X a ta) (hb : PE X b tb) : PC X .Gt a b (tGt ta tb) := pc_int ha hb fun _ _ _ _ _ _ h => gt_int h
theorem pc_ge (ha : PE X a ta) (hb : PE X b tb) : PC X .GtE a b (tGe ta tb) := pc_int ha hb fun _ _ _ _ _ _ h => ge_int h
theorem pc_eqI (ha : PE X a ta) (hb : PE X b tb) : PC X .Eq a b (tEqI ta tb) := pc_int ha hb fun _ _ _ _ _ _ h => eq_int (by rw [Bool.beq_eq_decide_eq]; exact h)
theorem pc_neI (ha : PE X a ta) (hb : PE X b tb) : PC X .NotEq a b (tNeI ta tb) := pc_int ha hb fun _ _ _ _ _ _ h => ne_int (by rw [bne, Bool.beq_eq_decide_eq]; exact h)
/-- is None -/
def tIsN (ta : TE) : TE := fun σ H Q => ta σ H fun x H1 => Q (.bl (decide (x = .non))) H1
def tNotN (ta : TE) : TE := fun σ H Q => ta σ H fun x H1 => Q (.bl (!decide (x = .non))) H1
theorem RelV.none_iff {x : V} {v : Value} (r : RelV x v) : (v == Value.none) = decide (x = .non) := by
  cases x with
  | non => cases r; rfl
  | bl _ => cases r; rfl
  | int _ => obtain ⟨t, rfl⟩ := r; rfl
  | str _ => obtain ⟨t, rfl⟩ := r; rfl
  | byt _ => obtain ⟨t, rfl⟩ := r; rfl
  | flt _ => obtain ⟨t, rfl⟩ := r; rfl
  | ref _ => cases r; rfl
  | ty _ => cases r; rfl
theorem pc_isN {j pos'} (ha : PE X a ta) : PC X .Is a (.Constant .none j pos') (tIsN ta) := by
  intro pins s σ H Q I h
  refine thn (ha pins s σ H _ I h) fun v s1 ⟨x, H1, I1, r1, q1⟩ => ?_
  exact Constant_none (is_none_gen ⟨.bl _, H1, I1, by rw [r1.none_iff]; rfl, q1⟩)
theorem pc_notN {j pos'} (ha : PE X a ta) : PC X .IsNot a (.Constant .none j pos') (tNotN ta) := by
  intro pins s σ H Q I h
  refine thn (ha pins s σ H _ I h) fun v s1 ⟨x, H1, I1, r1, q1⟩ => ?_
  exact Constant_none (isnot_none_gen ⟨.bl _, H1, I1, by rw [r1.none_iff]; rfl, q1⟩)
/-- a comparison as a value, as a test -/
def tB (t : TE) : TT := fun σ H Q => t σ H fun x H1 => ∃ c, x = .bl c ∧ Q c H1
theorem pe_cmp {op : CmpOp} {t : TE} (h : PC X op a b t) (h1 : behindInMarks op b = false := by first | exact nobehind _ (by decide) (by decide) | rfl) : PE X (.Compare a [op] [b] pos) t := fun pins s σ H Q I hw => wpAny_Compare1 (h pins s σ H Q I hw) h1
theorem pt_cmp {op : CmpOp} {t : TE} (h : PC X op a b t) (h1 : behindInMarks op b = false := by first | exact nobehind _ (by decide) (by decide) | rfl) : PT X (.Compare a [op] [b] pos) (tB t) := by
  intro pins s σ H Q I hw
  refine wpAny_isTrue_Compare1 (thn (h pins s σ H _ I hw) fun v s1 h1 => thn h1 fun u s2 h2 => thn h2 fun c s3 ⟨x, H1, I1, r1, q1⟩ => ?_) h1
  obtain ⟨d, rfl, q⟩ := q1
  cases r1
  exact wpAny_truthy_bool ⟨H1, I1, q⟩
/-- an expression whose value is a bool, as a test -/
theorem pt_val {e : Expr} {t : TE} (h : PE X e t) (he : ∀ whole, isTrue e X.env whole = (do let v ← whole; standAt e.pos; holding [v] (truthy v)) := by intro _; rfl) : PT X e (tB t) := by
  intro pins s σ H Q I hw
  refine isTrue_plain (thn (h pins s σ H _ I hw) fun v s1 ⟨x, H1, I1, r1, q1⟩ => ?_) (he _)
  obtain ⟨d, rfl, q⟩ := q1
  cases r1
  exact wpAny_truthy_bool ⟨H1, I1, q⟩

/-! ### and, or, not -/
variable {tA tB' : TT} {rest : List Expr}
def tAnd (t u : TT) : TT := fun σ H Q => t σ H fun c H1 => if c = true then u σ H1 Q else Q false H1
def tOr (t u : TT) : TT := fun σ H Q => t σ H fun c H1 => if c = true then Q true H1 else u σ H1 Q
def tNot (t : TT) : TT := fun σ H Q => t σ H fun c H1 => Q (!c) H1
theorem pw_and1 (ha : PT X a tA) : PW X (.BoolOp .And [a] pos) tA := by
  intro wh pins s σ H Q I h
  refine isTrue_and (thn (ha pins s σ H Q I h) fun c s1 e => ?_)
  cases c with
  | true => exact isTrue_and_nil e
  | false => exact e
theorem pw_or1 (ha : PT X a tA) : PW X (.BoolOp .Or [a] pos) tA := by
  intro wh pins s σ H Q I h
  refine isTrue_or (thn (ha pins s σ H Q I h) fun c s1 e => ?_)
  cases c with
  | false => exact isTrue_or_nil e
  | true => exact e
theorem pw_and (ha : PT X a tA) (hb : PW X (.BoolOp .And (b :: rest) pos) tB') : PW X (.BoolOp .And (a :: b :: rest) pos) (tAnd tA tB') := by
  intro wh pins s σ H Q I h
  refine isTrue_and (thn (ha pins s σ H _ I h) fun c s1 ⟨H1, I1, q1⟩ => ?_)
  cases c with
  | true => exact hb wh pins s1 σ H1 Q I1 q1
  | false => exact ⟨H1, I1, q1⟩
theorem pw_or (ha : PT X a tA) (hb : PW X (.BoolOp .Or (b :: rest) pos) tB') : PW X (.BoolOp .Or (a :: b :: rest) pos) (tOr tA tB') := by
  intro wh pins s σ H Q I h
  refine isTrue_or (thn (ha pins s σ H _ I h) fun c s1 ⟨H1, I1, q1⟩ => ?_)
  cases c with
  | true => exact ⟨H1, I1, q1⟩
  | false => exact hb wh pins s1 σ H1 Q I1 q1
theorem pt_not (ha : PT X a tA) : PT X (.UnaryOp .Not a pos) (tNot tA) := by
  intro pins s σ H Q I h
  exact isTrue_not (ha pins s σ H (fun c H1 => Q (!c) H1) I h)
/-- .. as values (bools) -/
def tAndV (ta tb : TE) : TE := fun σ H Q => ta σ H fun x H1 => ∃ c, x = .bl c ∧ if c = true then tb σ H1 Q else Q (.bl false) H1
def tOrV (ta tb : TE) : TE := fun σ H Q => ta σ H fun x H1 => ∃ c, x = .bl c ∧ if c = true then Q (.bl true) H1 else tb σ H1 Q
def tNotV (ta : TE) : TE := fun σ H Q => ta σ H fun x H1 => ∃ c, x = .bl c ∧ Q (.bl (!c)) H1
theorem pe_one {op} {t : TE} (h : PE X a t) : PE X (.BoolOp op [a] pos) t := fun pins s σ H Q I hw => BoolOp_one (h pins s σ H Q I hw)
theorem pe_and (ha : PE X a ta) (hb : PE X (.BoolOp .And (b :: rest) pos) tb) : PE X (.BoolOp .And (a :: b :: rest) pos) (tAndV ta tb) := by
  intro pins s σ H Q I h
  refine BoolOp_and (thn (ha pins s σ H _ I h) fun v s1 ⟨x, H1, I1, r1, q1⟩ => ?_)
  obtain ⟨c, rfl, q1⟩ := q1
  cases r1
  refine wpAny_truthy_bool ?_
  cases c with
  | true => exact hb pins s1 σ H1 Q I1 q1
  | false => exact ⟨.bl false, H1, I1, rfl, q1⟩
theorem pe_or (ha : PE X a ta) (hb : PE X (.BoolOp .Or (b :: rest) pos) tb) : PE X (.BoolOp .Or (a :: b :: rest) pos) (tOrV ta tb) := by
  intro pins s σ H Q I h
  refine BoolOp_or (thn (ha pins s σ H _ I h) fun v s1 ⟨x, H1, I1, r1, q1⟩ => ?_)
  obtain ⟨c, rfl, q1⟩ := q1
  cases r1
  refine wpAny_truthy_bool ?_
  cases c with
  | false => exact hb pins s1 σ H1 Q I1 q1
  | true => exact ⟨.bl true, H1, I1, rfl, q1⟩
theorem pe_not (ha : PE X a ta) : PE X (.UnaryOp .Not a pos) (tNotV ta) := by
  intro pins s σ H Q I h
  refine UnaryOp_ (thn (ha pins s σ H _ I h) fun v s1 ⟨x, H1, I1, r1, q1⟩ => ?_)
  obtain ⟨c, rfl, q1⟩ := q1
  cases r1
  exact not_of (wpAny_truthy_bool ⟨.bl (!c), H1, I1, rfl, q1⟩)
/-- a if t else b -/
def tIf (t : TT) (ta tb : TE) : TE := fun σ H Q => t σ H fun c H1 => if c = true then ta σ H1 Q else tb σ H1 Q
theorem pe_ifExp {c : Expr} (hc : PT X c tA) (ha : PE X a ta) (hb : PE X b tb) : PE X (.IfExp c a b pos) (tIf tA ta tb) := by
  intro pins s σ H Q I h
  refine wpAny_IfExp (thn (hc pins s σ H _ I h) fun d s1 ⟨H1, I1, q1⟩ => ?_)
  cases d with
  | true => exact ha pins s1 σ H1 Q I1 q1
  | false => exact hb pins s1 σ H1 Q I1 q1
end
end L2

namespace L2
open PySem PySem.Spec PyProof.Rows

/-! ### a list, a tuple that is read: tracked, frozen, or an object of the module -/
def SqL (K : PySem.W.Frag) (H : Hp) (a : Addr) (xs : List V) : Prop :=
  Rd H a (.lst xs) ∨
    ∃ (o : Obj) (its : Array Value) (n : Nat), K.lookup a = some o ∧ o.cls = .type "list" ∧ o.dict = none ∧ o.data = .seq its n ∧ its.size ≤ sizeLine ∧ Vals xs its.toList
def SqT (K : PySem.W.Frag) (H : Hp) (a : Addr) (xs : List V) : Prop :=
  Rd H a (.tup xs) ∨
    ∃ (o : Obj) (its : Array Value) (n : Nat), K.lookup a = some o ∧ o.cls = .type "tuple" ∧ o.data = .seq its n ∧ its.size ≤ sizeLine ∧ Vals xs its.toList
def absV : Value → Option V
  | .none => some .non
  | .bool b => some (.bl b)
  | .int i _ => some (.int i)
  | .str x _ => some (.str x)
  | .bytes b _ => some (.byt b)
  | .float b _ => some (.flt b)
  | .ref a => some (.ref a)
  | .type n => some (.ty n)
  | _ => none
theorem RelV.abs {x : V} {u : Value} (r : RelV x u) : absV u = some x := by
  cases x with
  | non => cases r; rfl
  | bl _ => cases r; rfl
  | int _ => obtain ⟨t, rfl⟩ := r; rfl
  | str _ => obtain ⟨t, rfl⟩ := r; rfl
  | byt _ => obtain ⟨t, rfl⟩ := r; rfl
  | flt _ => obtain ⟨t, rfl⟩ := r; rfl
  | ref _ => cases r; rfl
  | ty _ => cases r; rfl
theorem RelV.inj {x y : V} {u : Value} (r : RelV x u) (q : RelV y u) : x = y := Option.some.inj (r.abs.symm.trans q.abs)
theorem Vals.inj : ∀ {xs ys : List V} {us : List Value}, Vals xs us → Vals ys us → xs = ys
  | _, _, _, .nil, .nil => rfl
  | _, _, _, .cons r t, .cons r' t' => by rw [r.inj r', Vals.inj t t']
section
variable {X : Cx} {pins : List (Addr × Obj)} {σ : St} {H : Hp} {s : Shared} {a : Addr} {xs ys : List V}
theorem SqL.of {K : PySem.W.Frag} (h : H a = some (.lst xs)) : SqL K H a xs := .inl (.inl h)
theorem SqT.of {K : PySem.W.Frag} (h : H a = some (.tup xs)) : SqT K H a xs := .inl (.inl h)
theorem Inv.list (I : Inv X pins σ H s) (h : SqL X.K H a xs) : ∃ its : List Value, Vals xs its ∧ PlainL s.heap a its.toArray ∧ xs.length ≤ sizeLine := by
  rcases h with h | ⟨o, its, n, hk, hc, hd, hs, hz, r⟩
  · obtain ⟨z, its, n, r, e⟩ := h.ok I.hok
    exact ⟨its, r, ⟨_, n, e, rfl, rfl, rfl⟩, z⟩
  · refine ⟨its.toList, r, ⟨o, n, I.kIn a o hk, hc, hd, by simpa using hs⟩, ?_⟩
    have e := r.length
    simp only [Array.length_toList] at e
    omega
theorem Inv.tuple (I : Inv X pins σ H s) (h : SqT X.K H a xs) : ∃ its : List Value, Vals xs its ∧ IsTup s.heap a its.toArray ∧ xs.length ≤ sizeLine := by
  rcases h with h | ⟨o, its, n, hk, hc, hs, hz, r⟩
  · obtain ⟨z, its, r, p⟩ := h.ok I.hok
    exact ⟨its, r, p, z⟩
  · refine ⟨its.toList, r, ⟨o, I.kIn a o hk, hc, n, by simpa using hs⟩, ?_⟩
    have e := r.length
    simp only [Array.length_toList] at e
    omega
theorem Inv.list_inj (I : Inv X pins σ H s) (h : SqL X.K H a xs) (h' : SqL X.K H a ys) : xs = ys := by
  obtain ⟨its, r, ⟨o, n, e, _, _, d⟩, _⟩ := I.list h
  obtain ⟨its', r', ⟨o', n', e', _, _, d'⟩, _⟩ := I.list h'
  rw [e] at e'; cases e'
  rw [d] at d'
  injection d' with d1 _
  have : its = its' := by simpa using congrArg Array.toList d1
  subst this
  exact r.inj r'
theorem Inv.tuple_inj (I : Inv X pins σ H s) (h : SqT X.K H a xs) (h' : SqT X.K H a ys) : xs = ys := by
  obtain ⟨its, r, ⟨o, e, _, n, d⟩, _⟩ := I.tuple h
  obtain ⟨its', r', ⟨o', e', _, n', d'⟩, _⟩ := I.tuple h'
  rw [e] at e'; cases e'
  rw [d] at d'
  injection d' with d1 _
  have : its = its' := by simpa using congrArg Array.toList d1
  subst this
  exact r.inj r'
end

/-! ### another wish about exceptions -/
abbrev Cx.wish (X : Cx) (E : Value → Shared → Prop) : Cx := { X with xe := E }
/-- no exception leaves -/
abbrev Cx.nox (X : Cx) : Cx := X.wish fun _ _ => False
theorem Cx.Ok.wish {X : Cx} (ok : X.Ok) (E : Value → Shared → Prop) : (X.wish E).Ok :=
  ⟨ok.mod, ok.kind, ok.glob, ok.blt, ok.above, ok.inj, ok.has, ok.cab, ok.hd, ok.frames, ok.stk, ok.exf, ok.bs, ok.bsz, ok.noex, ok.exfs, ok.funs, ok.frf⟩
theorem Cx.Ok.unwish {X : Cx} {E : Value → Shared → Prop} (ok : (X.wish E).Ok) : X.Ok :=
  ⟨ok.mod, ok.kind, ok.glob, ok.blt, ok.above, ok.inj, ok.has, ok.cab, ok.hd, ok.frames, ok.stk, ok.exf, ok.bs, ok.bsz, ok.noex, ok.exfs, ok.funs, ok.frf⟩
section
variable {X : Cx} {pins : List (Addr × Obj)} {σ : St} {H : Hp} {s : Shared} {E : Value → Shared → Prop}
theorem Inv.wish (I : Inv X pins σ H s) (E : Value → Shared → Prop) : Inv (X.wish E) pins σ H s := ⟨I.ok.wish E, I.os, I.bare, I.base, I.loc, I.cell, I.free, I.freeC, I.pin, I.hok, I.len⟩
theorem Inv.unwish (I : Inv (X.wish E) pins σ H s) : Inv X pins σ H s := ⟨I.ok.unwish, I.os, I.bare, I.base, I.loc, I.cell, I.free, I.freeC, I.pin, I.hok, I.len⟩
theorem SP.unwish {D : Ends} {f : Flow} {s' : Shared} (h : SP (X.wish E) pins D f s') : SP X pins D f s' := by
  cases f with
  | next => obtain ⟨σ', H', I, q⟩ := h; exact ⟨σ', H', I.unwish, q⟩
  | brk => obtain ⟨σ', H', I, q⟩ := h; exact ⟨σ', H', I.unwish, q⟩
  | cont => obtain ⟨σ', H', I, q⟩ := h; exact ⟨σ', H', I.unwish, q⟩
  | ret u => obtain ⟨v, σ', H', I, r, q⟩ := h; exact ⟨v, σ', H', I.unwish, r, q⟩
theorem PE.nox {e : Expr} {t : TE} (h : PE X.nox e t) : PE X e t := fun pins s σ H Q I hw =>
  wpAny_mono (h pins s σ H Q (I.wish _) hw) (fun _ _ ⟨v, H', I', r, q⟩ => ⟨v, H', I'.unwish, r, q⟩) fun _ _ z => False.elim z
theorem PT.nox {e : Expr} {t : TT} (h : PT X.nox e t) : PT X e t := fun pins s σ H Q I hw =>
  wpAny_mono (h pins s σ H Q (I.wish _) hw) (fun _ _ ⟨H', I', q⟩ => ⟨H', I'.unwish, q⟩) fun _ _ z => False.elim z
theorem PSs.nox {st : List Stmt} {t : TS} (h : PSs X.nox st t) : PSs X st t := fun pins s σ H D I hw =>
  wpAny_mono (h pins s σ H D (I.wish _) hw) (fun _ _ q => q.unwish) fun _ _ z => False.elim z
end

/-! ### blocks and small statements -/
section
variable {X : Cx} {st : Stmt} {rest : List Stmt} {t u : TS} {e : Expr} {te : TE} {pos : Pos}
def tNext : TS := fun D σ H => D.nx σ H
def tSeq (t u : TS) : TS := fun D σ H => t { D with nx := u D } σ H
theorem pss_nil : PSs X [] tNext := fun _ _ σ H _ I h => wpAny_execs_nil ⟨σ, H, I, h⟩
theorem pss_cons (h1 : PS X st t) (h2 : PSs X rest u) : PSs X (st :: rest) (tSeq t u) := by
  intro pins s σ H D I h
  refine wpAny_execs_cons (thn (h1 pins s σ H { D with nx := u D } I h) fun f s1 q => ?_)
  cases f with
  | next =>
    obtain ⟨σ', H', I', q⟩ := q
    exact h2 pins s1 σ' H' D I' q
  | ret v => exact q
  | brk => exact q
  | cont => exact q
theorem pss_one (h1 : PS X st t) : PSs X [st] t := by
  intro pins s σ H D I h
  refine wpAny_execs_cons (thn (h1 pins s σ H D I h) fun f s1 q => ?_)
  cases f with
  | next => exact wpAny_execs_nil q
  | ret v => exact q
  | brk => exact q
  | cont => exact q
def tBreak : TS := fun D σ H => D.bk σ H
def tCont : TS := fun D σ H => D.ct σ H
theorem ps_pass : PS X (.Pass pos) tNext := fun _ _ σ H _ I h => wpAny_Pass ⟨σ, H, I, h⟩
theorem ps_break : PS X (.Break pos) tBreak := fun _ _ σ H _ I h => wpAny_Break ⟨σ, H, I, h⟩
theorem ps_continue : PS X (.Continue pos) tCont := fun _ _ σ H _ I h => wpAny_Continue ⟨σ, H, I, h⟩
/-- in a def's body nothing is shown -/
theorem Inv.quiet {pins : List (Addr × Obj)} {σ : St} {H : Hp} {s : Shared} (I : Inv X pins σ H s) : interactive X.env = false := by simp [interactive, I.ok.kind]
/-- a docstring -/
theorem ps_doc {x j pos pos'} : PS X (.Expr (.Constant (.str x) j pos) pos') tNext := fun _ s σ H _ I h => wpAny_Expr (Calls.Constant_str (show SP X _ _ .next { s with toks := s.toks + 1 } from ⟨σ, H, I.tok _, h⟩)) I.quiet
/-- an expression whose value is dropped -/
def tDrop (te : TE) : TS := fun D σ H => te σ H fun _ H1 => D.nx σ H1
theorem ps_expr (he : PE X e te) (hs : swapsWith e none pos.line X.env = pure false := by rfl) : PS X (.Expr e pos) (tDrop te) := by
  intro pins s σ H D I h
  exact wpAny_Expr_any (thn (he pins s σ H _ I h) fun v s1 ⟨x, H1, I1, r1, q1⟩ => ⟨σ, H1, I1, q1⟩) I.quiet hs
def tRet (te : TE) : TS := fun D σ H => te σ H D.rt
theorem ps_ret (he : PE X e te) : PS X (.Return (some e) pos) (tRet te) := by
  intro pins s σ H D I h
  exact wpAny_Return_some (thn (he pins s σ H _ I h) fun v s1 ⟨x, H1, I1, r1, q1⟩ => ⟨x, σ, H1, I1, r1, q1⟩)
def tRetN : TS := fun D _ H => D.rt .non H
theorem ps_retN : PS X (.Return none pos) tRetN := fun _ _ σ H _ I h => wpAny_Return_none ⟨.non, σ, H, I, rfl, h⟩
def tIfS (c : TT) (t u : TS) : TS := fun D σ H => c σ H fun b H1 => if b = true then t D σ H1 else u D σ H1
theorem ps_if {c : Expr} {a b : List Stmt} {tc : TT} (hc : PT X c tc) (ha : PSs X a t) (hb : PSs X b u) : PS X (.If c a b pos) (tIfS tc t u) := by
  intro pins s σ H D I h
  refine wpAny_If (thn (hc pins s σ H _ I h) fun d s1 ⟨H1, I1, q1⟩ => ?_)
  cases d with
  | true => exact ha pins s1 σ H1 D I1 q1
  | false => exact hb pins s1 σ H1 D I1 q1
/-- code that the proof never comes to -/
def tNever : TS := fun _ _ _ => False
theorem ps_never : PS X st tNever := fun _ _ _ _ _ _ h => h.elim
theorem pss_never {sts : List Stmt} : PSs X sts tNever := fun _ _ _ _ _ _ h => h.elim
end

/-! ### targets -/
abbrev TG := V → St → Hp → (St → Hp → Prop) → Prop
abbrev TGs := List V → St → Hp → (St → Hp → Prop) → Prop
def PG (X : Cx) (target : Expr) (t : TG) : Prop :=
  ∀ (pins : List (Addr × Obj)) (s : Shared) (σ : St) (H : Hp) (v : V) (u : Value) (Q : St → Hp → Prop), Inv X pins σ H s → RelV v u → t v σ H Q →
    wpAny (model X.prog X.w) X.A (assign target X.env u) (fun _ s' => ∃ σ' H', Inv X pins σ' H' s' ∧ Q σ' H') X.xe s
/-- several targets, one after another -/
def PGs (X : Cx) (ts : List Expr) (t : TGs) : Prop :=
  ∀ (pins : List (Addr × Obj)) (s : Shared) (σ : St) (H : Hp) (vs : List V) (us : List Value) (Q : St → Hp → Prop), Inv X pins σ H s → Vals vs us → t vs σ H Q →
    wpAny (model X.prog X.w) X.A (assignInOrder ((assignEach ts X.env).map (·.2)) us) (fun _ s' => ∃ σ' H', Inv X pins σ' H' s' ∧ Q σ' H') X.xe s
/-- o[i] = v, by values -/
abbrev TSet := V → V → V → Hp → (Hp → Prop) → Prop
def PSet (X : Cx) (t : TSet) : Prop :=
  ∀ (pins : List (Addr × Obj)) (s : Shared) (σ : St) (H : Hp) (o i v : V) (ov iv u : Value) (Q : Hp → Prop), Inv X pins σ H s → RelV o ov → RelV i iv → RelV v u → t o i v H Q →
    wpAny (model X.prog X.w) X.A (setItem ov iv u) (fun _ s' => ∃ H', Inv X pins σ H' s' ∧ Q H') X.xe s
/-- a op= b, by values -/
abbrev TIp := V → V → Hp → VK → Prop
def PIp (X : Cx) (op : Operator) (t : TIp) : Prop :=
  ∀ (pins : List (Addr × Obj)) (s : Shared) (σ : St) (H : Hp) (x y : V) (v u : Value) (Q : VK), Inv X pins σ H s → RelV x v → RelV y u → t x y H Q →
    wpAny (model X.prog X.w) X.A (inplaceOp op v u) (EP X pins σ Q) X.xe s
section
variable {X : Cx} {pos : Pos}
def gName (i : Nat) : TG := fun v σ H Q => Q (σ.set i (some v)) H
theorem pg_name {i : Nat} {x : Str} (hN : X.N.Nodup) (hi : X.N[i]? = some x) (hx : Loc X.env.scope x) (hf : X.fn x = true ∨ X.env.scope.names.lookup x = some .local := by first | exact .inl rfl | exact .inr rfl | assumption) : PG X (.Name x pos) (gName i) := by
  intro pins s σ H v u Q I r h
  exact wpAny_assign_Name (store_ok I hN hi hx r (fun s' I' => ⟨_, H, I', h⟩) hf)
def gNil : TGs := fun vs σ H Q => vs = [] ∧ Q σ H
def gCons (t : TG) (u : TGs) : TGs := fun vs σ H Q => ∃ v r, vs = v :: r ∧ t v σ H fun σ' H' => u r σ' H' Q
theorem pgs_nil : PGs X [] gNil := by
  intro pins s σ H vs us Q I r h
  obtain ⟨e, h⟩ := h
  subst e
  cases r
  exact assignInOrder_nil ⟨σ, H, I, h⟩
theorem pgs_cons {e : Expr} {es : List Expr} {t : TG} {u : TGs} (h1 : PG X e t) (h2 : PGs X es u)
    (hs : (assignEach (e :: es) X.env).map (·.2) = assign e X.env :: (assignEach es X.env).map (·.2) := by rfl) : PGs X (e :: es) (gCons t u) := by
  intro pins s σ H vs us Q I r h
  obtain ⟨v, vr, e1, h⟩ := h
  subst e1
  cases r with
  | cons r rr =>
    rw [hs]
    refine assignInOrder_cons (thn (h1 pins s σ H _ _ _ I r h) fun _ s1 ⟨σ1, H1, I1, q1⟩ => ?_)
    exact h2 pins s1 σ1 H1 _ _ Q I1 rr q1
/-- (a, b, ..) = a tuple of that length -/
def gTup (K : PySem.W.Frag) (n : Nat) (t : TGs) : TG := fun v σ H Q => ∃ a xs, v = .ref a ∧ SqT K H a xs ∧ xs.length = n ∧ t xs σ H Q
theorem pg_tup {es : List Expr} {k : Nat} {t : TGs} {n : Nat} (hc : X.calm = true) (h : PGs X es t)
    (hn : (assignEach es X.env).length = n := by rfl) (hst : (assignEach es X.env).findIdx? (·.1) = none := by rfl) : PG X (.Tuple es k pos) (gTup X.K n t) := by
  intro pins s σ H v u Q I r hw
  obtain ⟨a, xs, e1, hq, hl, hw⟩ := hw
  subst e1
  cases r
  obtain ⟨its, rv, ht, hz⟩ := I.tuple hq
  refine assign_Tuple_tuple (I.ok.hd hc) ht (by simp [hn, ← hl, rv.length]) hst fun h' hx => ?_
  have I1 : Inv X pins σ H { s with heap := h' } := I.kept (t' := s.toks) fun b o e => hx b o (Nat.ne_of_lt (Heap.lt_size e)) e
  exact h pins _ σ H xs _ Q I1 (by simpa using rv) hw
/-- o[i] = .. -/
def gSub (to ti : TE) (t : TSet) : TG := fun v σ H Q => to σ H fun o H1 => ti σ H1 fun i H2 => t o i v H2 fun H3 => Q σ H3
theorem pg_sub {o i : Expr} {to ti : TE} {t : TSet} (ho : PE X o to) (hi : PE X i ti) (hs : PSet X t)
    (ha : ∀ v, assign (.Subscript o i pos) X.env v = (do
      let ov ← holding [v] (eval o X.env)
      let iv ← holding [v, ov] (eval i X.env)
      standAt pos
      holding [v, ov, iv] (setItem ov iv v)
      release [v, ov, iv] []) := by intro _; rfl) : PG X (.Subscript o i pos) (gSub to ti t) := by
  intro pins s σ H v u Q I r h
  rw [ha]
  refine wpAny_bind (wpAny_holding (thn (ho pins s σ H _ I h) fun ov s1 ⟨x, H1, I1, r1, q1⟩ => ?_))
  refine wpAny_bind (wpAny_holding (thn (hi pins s1 σ H1 _ I1 q1) fun iv s2 ⟨y, H2, I2, r2, q2⟩ => ?_))
  refine wpAny_bind (wpAny_standAt (wpAny_bind (wpAny_holding (thn (hs pins s2 σ H2 x y v ov iv u _ I2 r1 r2 r q2) fun _ s3 ⟨H3, I3, q3⟩ => ?_))))
  exact wpAny_release ⟨σ, H3, I3, q3⟩
/-- target = value -/
def tAsg (te : TE) (g : TG) : TS := fun D σ H => te σ H fun x H1 => g x σ H1 D.nx
theorem ps_asg {tg e : Expr} {te : TE} {g : TG} (he : PE X e te) (hg : PG X tg g) (hs : swapsWithSole [tg] e pos.line X.env = pure false := by rfl) (hw : swappedStores [tg] e X.env = pure none := by rfl)
    (h1 : (assignEach [tg] X.env).map (·.2) = [assign tg X.env] := by rfl) : PS X (.Assign [tg] e pos) (tAsg te g) := by
  intro pins s σ H D I h
  refine wpAny_Assign_stores (thn (he pins s σ H _ I h) fun v s1 ⟨x, H1, I1, r1, q1⟩ => ?_) hs hw
  rw [h1]
  exact thn (hg pins s1 σ H1 x v _ I1 r1 q1) fun _ s2 q => q
/-- name = value -/
theorem ps_set {i : Nat} {x : Str} {e : Expr} {te : TE} {pos' : Pos} (hN : X.N.Nodup) (hi : X.N[i]? = some x) (hx : Loc X.env.scope x) (he : PE X e te) (hs : swapsWith e (some (.Name x pos')) pos.line X.env = pure false := by rfl) (hf : X.fn x = true ∨ X.env.scope.names.lookup x = some .local := by first | exact .inl rfl | exact .inr rfl | assumption) :
    PS X (.Assign [.Name x pos'] e pos) (tAsg te (gName i)) := by
  intro pins s σ H D I h
  refine wpAny_Assign_Name (thn (he pins s σ H _ I h) fun v s1 ⟨y, H1, I1, r1, q1⟩ => ?_) hs
  exact store_ok I1 hN hi hx r1 (fun s2 I2 => ⟨_, H1, I2, q1⟩) hf
/-- a, b = x, y with plain local names: stored from the right; the pair itself is not tracked (the opening rows as in PyProof/Rows/TupAssign.lean:23) -/
def tPar (i j : Nat) (ta : TA) : TS := fun D σ H => ta σ H fun vs H1 => ∃ v w, vs = [v, w] ∧ D.nx ((σ.set i (some v)).set j (some w)) H1
theorem ps_par {i j : Nat} {x y : Str} {a b : Expr} {ta : TA} {px py pt : Pos} {kt k2 pt2} (hc : X.calm = true) (hN : X.N.Nodup) (hi : X.N[i]? = some x) (hj : X.N[j]? = some y) (hij : i ≠ j)
    (hx : X.env.scope.names.lookup x = some .local) (hy : X.env.scope.names.lookup y = some .local) (ha : PA X [a, b] ta)
    (hw : swappedStores [.Tuple [.Name x px, .Name y py] kt pt] (.Tuple [a, b] k2 pt2) X.env = pure (some [x, y]))
    (hs : swapsWithSole [.Tuple [.Name x px, .Name y py] kt pt] (.Tuple [a, b] k2 pt2) pos.line X.env = pure false := by rfl) :
    PS X (.Assign [.Tuple [.Name x px, .Name y py] kt pt] (.Tuple [a, b] k2 pt2) pos) (tPar i j ta) := by
  intro pins s σ H D I h
  rw [exec_Assign_arm]
  refine wpAny_bind (wpAny_standAt ?_)
  rw [hs]
  refine wpAny_bind (wpAny_pure ?_)
  rw [if_neg (by decide)]
  refine wpAny_bind (Tuple_ (thn (ha _ pins s σ H _ I h) fun us s1 ⟨vs, H1, I1, r1, q1⟩ => ?_))
  obtain ⟨v, w, e1, q1⟩ := q1
  subst e1
  obtain ⟨u1, u2, rfl, rv, rw'⟩ : ∃ u1 u2, us = [u1, u2] ∧ RelV v u1 ∧ RelV w u2 := by
    cases r1 with
    | cons p q =>
      cases q with
      | cons p' q' =>
        cases q'
        exact ⟨_, _, rfl, p, p'⟩
  refine wpAny_newObj_type ?_ (by show 2 ≤ sizeLine; decide)
  have I2 : Inv X pins σ H1 { s1 with heap := s1.heap.push { cls := .type "tuple", data := .seq [u1, u2].toArray } } := I1.kept (t' := s1.toks) fun b o e => Heap.get?_push_of_some _ e
  rw [hw]
  refine wpAny_bind (wpAny_pure ?_)
  show wpAny (model X.prog X.w) X.A (do rule "assign.swapped-stores"; let items ← unpackItems (.ref s1.heap.objs.size) 2 none; assignInOrder [fun v => bindName X.env y v, fun v => bindName X.env x v] items.reverse; pure Flow.next) _ _ _
  refine wpAny_bind (wpAny_rule (wpAny_bind (unpackItems_tuple (items := #[u1, u2]) (I.ok.hd hc) (IsTup.new s1.heap _) fun h' hx' => ?_)))
  have I3 := I2.kept (h' := h') (t' := s1.toks) fun b o e => hx' b o (Nat.ne_of_lt (Heap.lt_size e)) e
  show wpAny _ _ (assignInOrder [fun v => bindName X.env y v, fun v => bindName X.env x v] [u2, u1] >>= fun _ => pure Flow.next) _ _ _
  refine wpAny_bind (assignInOrder_cons (wpAny_bindName (store_ok I3 hN hj (.inl hy) rw' (fun s2 I4 => ?_) (.inr hy))))
  refine assignInOrder_cons (wpAny_bindName (store_ok I4 hN hi (.inl hx) rv (fun s3 I5 => assignInOrder_nil (wpAny_pure ?_)) (.inr hx)))
  rw [List.set_comm _ _ (Ne.symm hij)] at I5
  exact ⟨_, H1, I5, q1⟩
/-- name op= e -/
def tAug (i : Nat) (te : TE) (ti : TIp) : TS := fun D σ H => ∃ x, σ[i]? = some (some x) ∧ te σ H fun y H1 => ti x y H1 fun z H2 => D.nx (σ.set i (some z)) H2
theorem ps_aug {i : Nat} {x : Str} {e : Expr} {te : TE} {op : Operator} {ti : TIp} {pos' : Pos} (hN : X.N.Nodup) (hi : X.N[i]? = some x) (hx : Loc X.env.scope x) (he : PE X e te) (ho : PIp X op ti) (hf : X.fn x = true ∨ X.env.scope.names.lookup x = some .local := by first | exact .inl rfl | exact .inr rfl | assumption) :
    PS X (.AugAssign (.Name x pos') op e pos) (tAug i te ti) := by
  intro pins s σ H D I h
  obtain ⟨v, e1, h⟩ := h
  obtain ⟨m, hn, hl⟩ := I.loc
  have vis : Vis X.env.scope x := by rcases hx with k | k; exact .inl k; exact .inr (.inl k)
  obtain ⟨u, r, l⟩ := hl i x v hi e1 vis
  refine wpAny_AugAssign_Name ?_
  have go : wpAny (model X.prog X.w) X.A (eval e X.env) (fun w s₂ => wpAny (model X.prog X.w) X.A (inplaceOp op u w) (fun r s₃ => wpAny (model X.prog X.w) X.A (storeName X.env x r) (fun _ => SP X pins D .next) X.xe s₃) X.xe s₂) X.xe s := by
    refine thn (he pins s σ H _ I h) fun w s1 ⟨y, H1, I1, r1, q1⟩ => ?_
    refine thn (ho pins s1 σ H1 v y u w _ I1 r r1 q1) fun z s2 ⟨zv, H2, I2, r2, q2⟩ => ?_
    exact store_ok I2 hN hi hx r2 (fun s3 I3 => ⟨_, H2, I3, q2⟩) hf
  rcases l with ⟨hk, hm⟩ | ⟨hk, c, hc, hcell⟩
  · exact wpAny_loadName_local I.ok.kind hk hn hm go
  · rcases hk with hk | hk
    · exact wpAny_loadName_cell I.ok.kind hk hc hcell go
    · rcases hx with k | k
      · have : X.env.scope.names.lookup x = some .free := hk
        rw [k] at this; cases this
      · have : X.env.scope.names.lookup x = some .free := hk
        rw [k] at this; cases this
/-- o[i] op= e -/
def tAugS (to ti te : TE) (tget : V → V → Hp → VK → Prop) (tip : TIp) (tset : TSet) : TS := fun D σ H => to σ H fun o H1 => ti σ H1 fun i H2 => tget o i H2 fun x H3 => te σ H3 fun y H4 => tip x y H4 fun z H5 => tset o i z H5 fun H6 => D.nx σ H6
/-- o[i], by values -/
def PGet (X : Cx) (t : V → V → Hp → VK → Prop) : Prop :=
  ∀ (pins : List (Addr × Obj)) (s : Shared) (σ : St) (H : Hp) (o i : V) (ov iv : Value) (Q : VK), Inv X pins σ H s → RelV o ov → RelV i iv → t o i H Q →
    wpAny (model X.prog X.w) X.A (getItem ov iv) (EP X pins σ Q) X.xe s
theorem ps_augS {o i e : Expr} {to ti te : TE} {tget : V → V → Hp → VK → Prop} {tip : TIp} {tset : TSet} {op : Operator} {tpos : Pos} (ho : PE X o to) (hi : PE X i ti) (hg : PGet X tget) (he : PE X e te) (hp : PIp X op tip) (hs : PSet X tset)
    (ha : ∀ ov iv new, augStore i ov iv new = (do holding [new, ov, iv] (setItem ov iv new); release [new, ov, iv] []; pure .next) := by intros; rfl) : PS X (.AugAssign (.Subscript o i tpos) op e pos) (tAugS to ti te tget tip tset) := by
  intro pins s σ H D I h
  refine wpAny_AugAssign_SubscriptAny (thn (ho pins s σ H _ I h) fun ov s1 ⟨x1, H1, I1, r1, q1⟩ => ?_) ha
  refine thn (hi pins s1 σ H1 _ I1 q1) fun iv s2 ⟨x2, H2, I2, r2, q2⟩ => ?_
  refine thn (hg pins s2 σ H2 x1 x2 ov iv _ I2 r1 r2 q2) fun old s3 ⟨x3, H3, I3, r3, q3⟩ => ?_
  refine thn (he pins s3 σ H3 _ I3 q3) fun v s4 ⟨x4, H4, I4, r4, q4⟩ => ?_
  refine thn (hp pins s4 σ H4 x3 x4 old v _ I4 r3 r4 q4) fun new s5 ⟨x5, H5, I5, r5, q5⟩ => ?_
  exact thn (hs pins s5 σ H5 x1 x2 x5 ov iv new _ I5 r1 r2 r5 q5) fun _ s6 ⟨H6, I6, q6⟩ => ⟨σ, H6, I6, q6⟩
/-- ints -/
def ipI (f : Int → Int → Int) : TIp := fun x y H Q => ∃ i j, x = .int i ∧ y = .int j ∧ Q (.int (f i j)) H
theorem ip_add : PIp X .Add (ipI fun i j => i + j) := by
  intro pins s σ H x y v u Q I r1 r2 h
  obtain ⟨i, j, e1, e2, q⟩ := h
  subst e1; subst e2
  obtain ⟨t, rfl⟩ := r1
  obtain ⟨t', rfl⟩ := r2
  exact iadd_int ⟨.int _, H, I.tok _, ⟨_, rfl⟩, q⟩
theorem ip_sub : PIp X .Sub (ipI fun i j => i - j) := by
  intro pins s σ H x y v u Q I r1 r2 h
  obtain ⟨i, j, e1, e2, q⟩ := h
  subst e1; subst e2
  obtain ⟨t, rfl⟩ := r1
  obtain ⟨t', rfl⟩ := r2
  exact isub_int ⟨.int _, H, I.tok _, ⟨_, rfl⟩, q⟩
end

/-! ### while -/
section
variable {X : Cx} {pos : Pos}
/-- the invariant W with its measure -/
def tWhile (c : TT) (tb : TS) : TS := fun D σ H => ∃ W : Nat → St → Hp → Prop, (∃ m, W m σ H) ∧ ∀ m σ H, W m σ H →
  c σ H fun b H1 => if b = true then ∃ N : St → Hp → Prop, (∀ σ' H', N σ' H' → ∃ m', m' < m ∧ W m' σ' H') ∧ tb { D with nx := N, ct := N, bk := D.nx } σ H1 else D.nx σ H1
theorem ps_while {c : Expr} {body : List Stmt} {tc : TT} {tb : TS} (hp : PassesOwn (model X.prog X.w) X.A X.env X.xe) (hc : PT X c tc) (hb : PSs X body tb) : PS X (.While c body [] pos) (tWhile tc tb) := by
  intro pins s σ H D I h
  obtain ⟨W, ⟨m0, w0⟩, turn⟩ := h
  refine wpAny_While (codeAny_whileLoop (fun n s' => ∃ σ' H', Inv X pins σ' H' s' ∧ W n σ' H') ?_ m0 ⟨σ, H, I, w0⟩)
  rintro n s1 ⟨σ1, H1, I1, w1⟩
  refine wpAny_passesOwn hp (thn (hc pins s1 σ1 H1 _ I1 (turn n σ1 H1 w1)) fun b s2 ⟨H2, I2, q2⟩ => ?_)
  cases b with
  | true =>
    obtain ⟨N, hN, q2⟩ := q2
    rw [if_pos rfl]
    refine wpAny_passesOwn hp (thn (hb pins s2 σ1 H2 _ I2 q2) fun f s3 q3 => ?_)
    cases f with
    | next =>
      obtain ⟨σ3, H3, I3, n3⟩ := q3
      obtain ⟨m', hm, w3⟩ := hN σ3 H3 n3
      exact ⟨m', hm, σ3, H3, I3, w3⟩
    | cont =>
      obtain ⟨σ3, H3, I3, n3⟩ := q3
      obtain ⟨m', hm, w3⟩ := hN σ3 H3 n3
      exact ⟨m', hm, σ3, H3, I3, w3⟩
    | brk => exact q3
    | ret v => exact q3
  | false =>
    rw [if_neg Bool.false_ne_true]
    exact wpAny_execs_nil ⟨σ1, H2, I2, q2⟩
end

/-! ### what a loop or a comprehension walks -/
/-- at turn i: it yields x (the heap may grow), or it stops -/
structure It where
  go : Nat → Hp → Prop
  yld : Nat → Hp → V → Hp → Prop
  stop : Nat → Hp → Prop
/-- the iterator's own objects may turn: they are not the frame's, not pinned, younger than the entry (or a comprehension's own) -/
def FpOk (X : Cx) (pins : List (Addr × Obj)) (H : Hp) (b : Addr) : Prop :=
  H b = none ∧ b ≠ X.env.locals ∧ b ∉ X.fs ∧ (b ∈ X.ex ∨ X.s₀.heap.objs.size ≤ b) ∧ (∀ x c, X.env.cells.lookup x = some c → c ≠ b) ∧ ∀ p ∈ X.pn ++ pins, p.1 ≠ b
theorem Inv.fpOk {X : Cx} {pins : List (Addr × Obj)} {σ : St} {H H' : Hp} {s : Shared} {b : Addr} (I : Inv X pins σ H s) (hb : s.heap.objs.size ≤ b) (hn : H' b = none) : FpOk X pins H' b := by
  refine ⟨hn, Nat.ne_of_gt (Nat.lt_of_lt_of_le I.lt hb), I.nofs hb, .inr (Nat.le_trans I.sz hb), fun x c e z => ?_, fun p hp z => ?_⟩
  · obtain ⟨v, q⟩ := I.cell x c e
    exact absurd (Nat.lt_of_lt_of_le q.lt (by rw [z]; exact hb)) (Nat.lt_irrefl _)
  · exact absurd (Nat.lt_of_lt_of_le (Heap.lt_size (I.pin p hp).1) (by rw [z]; exact hb)) (Nat.lt_irrefl _)
structure Turn (P : Program) (w : World) (K : PySem.W.Frag) (tg : Expr) (J : It) (fp : List Addr) (it : Addr) (tn : Nat → Heap → Prop) : Prop where
  mem : it ∈ fp
  obj : ∀ i h, tn i h → ∀ b ∈ fp, ∃ o, h.get? b = some o ∧ ∀ v, o.data ≠ .cell v
  keep : ∀ i h h', tn i h → (∀ b ∈ fp, ∀ o, h.get? b = some o → h'.get? b = some o) → tn i h'
  item : ∀ (X : Cx), X.prog = P → X.w = w → X.K = K → X.calm = true → ∀ (i : Nat) (pins : List (Addr × Obj)) (s : Shared) (σ : St) (H : Hp) (E : Value → Shared → Prop), Inv X pins σ H s → (∀ b ∈ fp, FpOk X pins H b) → tn i s.heap → J.go i H →
    wpAny (model P w) X.A (pyNext (.ref it)) (fun r s1 => ∃ u, r = some u ∧
      wpAny (model P w) X.A (letOwnedTupleGo tg (.ref it) u) (fun _ s2 => ∃ x H', Inv X pins σ H' s2 ∧ RelV x u ∧ J.yld i H x H' ∧ tn (i + 1) s2.heap ∧ ∀ b ∈ fp, H' b = none) E s1) E s
  done : ∀ (X : Cx), X.prog = P → X.w = w → X.K = K → X.calm = true → ∀ (i : Nat) (pins : List (Addr × Obj)) (s : Shared) (σ : St) (H : Hp) (E : Value → Shared → Prop), Inv X pins σ H s → (∀ b ∈ fp, FpOk X pins H b) → tn i s.heap → J.stop i H →
    wpAny (model P w) X.A (pyNext (.ref it)) (fun r s1 => r = none ∧ Inv X pins σ H s1) E s
  self : ∀ (A : Around) (i : Nat) (s : Shared) (Q : Value → Shared → Prop) (E : Value → Shared → Prop), tn i s.heap → Q (.ref it) s → wpAny (model P w) A (pyIter (.ref it)) Q E s
abbrev TI := St → Hp → (It → Hp → Prop) → Prop
/-- an iterator has come -/
def PIE (X : Cx) (pins : List (Addr × Obj)) (σ : St) (tg : Expr) (R : It → Hp → Prop) (itv : Value) (s2 : Shared) : Prop :=
  ∃ (it : Addr) (fp : List Addr) (tn : Nat → Heap → Prop) (J : It) (H' : Hp), itv = .ref it ∧ Inv X pins σ H' s2 ∧ Turn X.prog X.w X.K tg J fp it tn ∧ tn 0 s2.heap ∧ (∀ b ∈ fp, FpOk X pins H' b) ∧ R J H'
def PI (X : Cx) (tg iter : Expr) (wi : TI) : Prop :=
  ∀ (pins : List (Addr × Obj)) (s : Shared) (σ : St) (H : Hp) (R : It → Hp → Prop), Inv X pins σ H s → wi σ H R →
    wpAny (model X.prog X.w) X.A (eval iter X.env) (fun v s1 => wpAny (model X.prog X.w) X.A (pyIter v) (PIE X pins σ tg R) X.xe s1) X.xe s

/-- the step ahead of the store is nothing for an iterator that keeps no tuple -/
theorem go_of {M : Model} {A : Around} {E : Value → Shared → Prop} {s : Shared} {tg : Expr} {it : Addr} {u : Value} {o : Obj} {n : String} {vs : Array Value} {Q : Unit → Shared → Prop} (ho : s.heap.get? it = some o) (hc : o.cls = .type n) (hd : o.data = .fields vs)
    (hn : ["enumerate", "zip", "dict_itemiterator", "dict_reverseitemiterator", "odict_iterator", "itertools.zip_longest", "itertools.pairwise"].contains n = false) (hQ : Q () s) : wpAny M A (letOwnedTupleGo tg (.ref it) u) Q E s := by
  unfold letOwnedTupleGo
  cases tg <;> first
    | exact wpAny_pure hQ
    | (cases u <;> first
        | exact wpAny_pure hQ
        | (refine wpAny_bind (wpAny_load ho ?_)
           rw [hc, hd]
           show wpAny M A (if (["enumerate", "zip", "dict_itemiterator", "dict_reverseitemiterator", "odict_iterator", "itertools.zip_longest", "itertools.pairwise"].contains n && vs[0]? == some (rawInt _)) = true then _ else _) Q E s
           rw [if_neg (by intro h; rw [hn, Bool.false_and] at h; cases h)]
           exact wpAny_pure hQ))

/-- the list at a, as it stands at each turn (a loop may append to it) -/
def Itl (K : PySem.W.Frag) (a : Addr) : It :=
  ⟨fun i H => ∃ xs x, SqL K H a xs ∧ xs[i]? = some x, fun i H x H' => H' = H ∧ ∀ xs, SqL K H a xs → xs[i]? = some x, fun i H => ∃ xs, SqL K H a xs ∧ xs.length ≤ i⟩
def Itt (K : PySem.W.Frag) (a : Addr) : It :=
  ⟨fun i H => ∃ xs x, SqT K H a xs ∧ xs[i]? = some x, fun i H x H' => H' = H ∧ ∀ xs, SqT K H a xs → xs[i]? = some x, fun i H => ∃ xs, SqT K H a xs ∧ xs.length ≤ i⟩
/-- lo, lo + 1, .. (n of them) -/
def Itr (lo : Int) (n : Nat) : It := ⟨fun i _ => i < n, fun i H x H' => H' = H ∧ x = .int (lo + i), fun i _ => n ≤ i⟩
theorem turn_list {P : Program} {w : World} {K : PySem.W.Frag} {tg : Expr} (a it : Addr) : Turn P w K tg (Itl K a) [it] it (fun i h => h.IsListIter it a i) where
  mem := by simp
  obj := fun i h st b hb => by
    have e : b = it := by simpa using hb
    subst e
    obtain ⟨o, e, c, d⟩ := st
    exact ⟨o, e, fun v z => by rw [d] at z; cases z⟩
  keep := fun i h h' st k => st.at fun o e => k it (by simp) o e
  item := by
    intro X hP hw hK hc i pins s σ H E I hf st hg
    subst hP hw hK
    obtain ⟨xs, x, hq, hx⟩ := hg
    obtain ⟨its, rv, p, hz⟩ := I.list hq
    obtain ⟨u, hu, ru⟩ := rv.get hx
    obtain ⟨f0, f1, f2, f3, f4, f5⟩ := hf it (by simp)
    refine wpAny_pyNext_list_item st p.isList (x := u) (by simpa using hu) fun h' st' sb => ?_
    have I1 : Inv X pins σ H { s with heap := h' } := I.turned (t' := s.toks) (fun b o hb e => (sb.2 b hb).trans e) f0 f1 f3 f4 f5
    obtain ⟨o, e, c, d⟩ := id st'
    exact ⟨u, rfl, go_of (s := { s with heap := h' }) e c d (by decide) ⟨x, H, I1, ru, ⟨rfl, fun ys hy => by rw [I.list_inj hy hq]; exact hx⟩, st', fun b hb => (hf b hb).1⟩⟩
  done := by
    intro X hP hw hK hc i pins s σ H E I hf st hg
    subst hP hw hK
    obtain ⟨xs, hq, hx⟩ := hg
    obtain ⟨its, rv, p, hz⟩ := I.list hq
    obtain ⟨f0, f1, f2, f3, f4, f5⟩ := hf it (by simp)
    have hl := rv.length
    exact wpAny_pyNext_list_end (I.ok.hd hc) st p.isList (by simp; omega) fun h' eb => ⟨rfl, I.turned (t' := s.toks) (fun b o hb e => eb b o hb e) f0 f1 f3 f4 f5⟩
  self := fun _ _ _ _ _ st h => wpAny_pyIter_listiter st h
theorem turn_tuple {P : Program} {w : World} {K : PySem.W.Frag} {tg : Expr} (a it : Addr) : Turn P w K tg (Itt K a) [it] it (fun i h => h.IsTupleIter it a i) where
  mem := by simp
  obj := fun i h st b hb => by
    have e : b = it := by simpa using hb
    subst e
    obtain ⟨o, e, c, d⟩ := st
    exact ⟨o, e, fun v z => by rw [d] at z; cases z⟩
  keep := fun i h h' st k => st.at fun o e => k it (by simp) o e
  item := by
    intro X hP hw hK hc i pins s σ H E I hf st hg
    subst hP hw hK
    obtain ⟨xs, x, hq, hx⟩ := hg
    obtain ⟨its, rv, p, hz⟩ := I.tuple hq
    obtain ⟨u, hu, ru⟩ := rv.get hx
    obtain ⟨f0, f1, f2, f3, f4, f5⟩ := hf it (by simp)
    refine wpAny_pyNext_tuple_item st (show s.heap.IsTuple a its.toArray from p) (x := u) (by simpa using hu) fun h' st' sb => ?_
    have I1 : Inv X pins σ H { s with heap := h' } := I.turned (t' := s.toks) (fun b o hb e => (sb.2 b hb).trans e) f0 f1 f3 f4 f5
    obtain ⟨o, e, c, d⟩ := id st'
    exact ⟨u, rfl, go_of (s := { s with heap := h' }) e c d (by decide) ⟨x, H, I1, ru, ⟨rfl, fun ys hy => by rw [I.tuple_inj hy hq]; exact hx⟩, st', fun b hb => (hf b hb).1⟩⟩
  done := by
    intro X hP hw hK hc i pins s σ H E I hf st hg
    subst hP hw hK
    obtain ⟨xs, hq, hx⟩ := hg
    obtain ⟨its, rv, p, hz⟩ := I.tuple hq
    obtain ⟨f0, f1, f2, f3, f4, f5⟩ := hf it (by simp)
    have hl := rv.length
    exact wpAny_pyNext_tuple_end (I.ok.hd hc) st (show s.heap.IsTuple a its.toArray from p) (by simp; omega) fun h' eb => ⟨rfl, I.turned (t' := s.toks) (fun b o hb e => eb b o hb e) f0 f1 f3 f4 f5⟩
  self := fun _ _ _ _ _ st h => wpAny_pyIter_tupleiter st h
theorem turn_range {P : Program} {w : World} {K : PySem.W.Frag} {tg : Expr} (it : Addr) (lo : Int) (n : Nat) : Turn P w K tg (Itr lo n) [it] it (fun i h => IsRangeIter h it (lo + (i : Nat) * 1) ((n : Int) - (i : Nat)) 1) where
  mem := by simp
  obj := fun i h st b hb => by
    have e : b = it := by simpa using hb
    subst e
    exact ⟨_, st, fun v z => by
      have z' : Data.fields _ = Data.cell v := z
      cases z'⟩
  keep := fun i h h' st k => k it (by simp) _ st
  item := by
    intro X hP hw hK hc i pins s σ H E I hf st hg
    subst hP hw hK
    obtain ⟨f0, f1, f2, f3, f4, f5⟩ := hf it (by simp)
    have W := Walks.range (prog := X.prog) (w := X.w) (I.ok.hd hc) it lo 1 n
    refine W.item i s _ _ hg st fun v h' tk hv st' kk => ?_
    obtain ⟨t, rfl⟩ := hv
    have I1 : Inv X pins σ H { s with heap := h', toks := tk } := I.turned (fun b o hb e => kk b o (by simpa using hb) e) f0 f1 f3 f4 f5
    refine ⟨_, rfl, go_of (s := { s with heap := h', toks := tk }) (n := "range_iterator") st' rfl rfl (by decide) ⟨.int (lo + i), H, I1, ⟨t, ?_⟩, ⟨rfl, rfl⟩, st', fun b hb => (hf b hb).1⟩⟩
    rw [Int.mul_one]
  done := by
    intro X hP hw hK hc i pins s σ H E I hf st hg
    subst hP hw hK
    obtain ⟨f0, f1, f2, f3, f4, f5⟩ := hf it (by simp)
    exact wpAny_pyNext_range_end (I.ok.hd hc) st (by have : n ≤ i := hg; omega) fun h' eb => ⟨rfl, I.turned (t' := s.toks) (fun b o hb e => eb b o hb e) f0 f1 f3 f4 f5⟩
  self := fun _ _ _ _ _ st h => wpAny_pyIter_rangeiter st h
end L2

namespace L2
open PySem PySem.Spec PyProof.Rows
section
variable {X : Cx} {tg : Expr}
def iList (K : PySem.W.Frag) (tl : TE) : TI := fun σ H R => tl σ H fun x H1 => ∃ a, x = .ref a ∧ (∃ xs, SqL K H1 a xs) ∧ R (Itl K a) H1
def iTup (K : PySem.W.Frag) (tl : TE) : TI := fun σ H R => tl σ H fun x H1 => ∃ a, x = .ref a ∧ (∃ xs, SqT K H1 a xs) ∧ R (Itt K a) H1
theorem pi_list {l : Expr} {tl : TE} (hl : PE X l tl) : PI X tg l (iList X.K tl) := by
  intro pins s σ H R I h
  refine thn (hl pins s σ H _ I h) fun v s1 ⟨x, H1, I1, r1, q1⟩ => ?_
  obtain ⟨a, e, ⟨xs, hq⟩, q⟩ := q1
  subst e
  cases r1
  obtain ⟨its, rv, p, hz⟩ := I1.list hq
  refine wpAny_pyIter_list p.isList ?_
  refine ⟨s1.heap.objs.size, [s1.heap.objs.size], _, _, H1, rfl, I1.kept (t' := s1.toks) fun b o e => Heap.get?_push_of_some _ e, turn_list a _, ⟨_, Heap.get?_push_size _ rfl, rfl, rfl⟩, fun b hb => ?_, q⟩
  have e : b = s1.heap.objs.size := by simpa using hb
  subst e
  exact I1.fpOk (Nat.le_refl _) (I1.hok.fresh (Nat.le_refl _))
theorem pi_tup {l : Expr} {tl : TE} (hl : PE X l tl) : PI X tg l (iTup X.K tl) := by
  intro pins s σ H R I h
  refine thn (hl pins s σ H _ I h) fun v s1 ⟨x, H1, I1, r1, q1⟩ => ?_
  obtain ⟨a, e, ⟨xs, hq⟩, q⟩ := q1
  subst e
  cases r1
  obtain ⟨its, rv, p, hz⟩ := I1.tuple hq
  refine wpAny_pyIter_tuple (show s1.heap.IsTuple a its.toArray from p) ?_
  refine ⟨s1.heap.objs.size, [s1.heap.objs.size], _, _, H1, rfl, I1.kept (t' := s1.toks) fun b o e => Heap.get?_push_of_some _ e, turn_tuple a _, ⟨_, Heap.get?_push_size _ rfl, rfl, rfl⟩, fun b hb => ?_, q⟩
  have e : b = s1.heap.objs.size := by simpa using hb
  subst e
  exact I1.fpOk (Nat.le_refl _) (I1.hok.fresh (Nat.le_refl _))
/-- a range object just made, walked -/
theorem range_it {pins : List (Addr × Obj)} {σ : St} {H : Hp} {s : Shared} {R : It → Hp → Prop} {E : Value → Shared → Prop} {lo hi : Int} {t u v : Tok} {tk : Nat} (I : Inv X pins σ H s) (h1 : -(2 ^ 62) ≤ lo) (h2 : lo < 2 ^ 62) (h3 : -(2 ^ 62) ≤ hi) (h4 : hi < 2 ^ 62)
    (q : R (Itr lo (hi - lo).toNat) H) : wpAny (model X.prog X.w) X.A (pyIter (.ref s.heap.objs.size)) (PIE X pins σ tg R) E { s with heap := s.heap.push { cls := .type "range", data := .fields #[.int lo t, .int hi u, .int 1 v] }, toks := tk } := by
  refine wpAny_pyIter_range (IsRange.new ..) (small_one h1 h2 h3 h4) ?_
  have I1 : Inv X pins σ H { s with heap := s.heap.push { cls := .type "range", data := .fields #[.int lo t, .int hi u, .int 1 v] }, toks := tk } := I.kept fun b o e => Heap.get?_push_of_some _ e
  refine ⟨(s.heap.push { cls := .type "range", data := .fields #[.int lo t, .int hi u, .int 1 v] }).objs.size, [(s.heap.push { cls := .type "range", data := .fields #[.int lo t, .int hi u, .int 1 v] }).objs.size], _, _, H, rfl,
    I1.kept (t' := tk) fun b o e => Heap.get?_push_of_some _ e, turn_range _ lo (hi - lo).toNat, ?_, fun b hb => ?_, q⟩
  · have e1 : lo + ((0 : Nat) : Int) * 1 = lo := by simp
    have e2 : (((hi - lo).toNat : Nat) : Int) - ((0 : Nat) : Int) = Builtin.Range.rangeSize lo hi 1 := by rw [rangeSize_one]; split <;> omega
    show IsRangeIter _ _ (lo + ((0 : Nat) : Int) * 1) ((((hi - lo).toNat : Nat) : Int) - ((0 : Nat) : Int)) 1
    rw [e1, e2]
    exact Heap.get?_push_size _ rfl
  · have e : b = (s.heap.push { cls := .type "range", data := .fields #[.int lo t, .int hi u, .int 1 v] }).objs.size := by simpa using hb
    subst e
    exact I1.fpOk (Nat.le_refl _) (I1.hok.fresh (Nat.le_refl _))
def iRng1 (ta : TA) : TI := fun σ H R => ta σ H fun vs H1 => ∃ j : Int, vs = [.int j] ∧ -(2 ^ 62) ≤ j ∧ j < 2 ^ 62 ∧ R (Itr 0 j.toNat) H1
def iRng2 (ta : TA) : TI := fun σ H R => ta σ H fun vs H1 => ∃ i j : Int, vs = [.int i, .int j] ∧ (-(2 ^ 62) ≤ i ∧ i < 2 ^ 62 ∧ -(2 ^ 62) ≤ j ∧ j < 2 ^ 62) ∧ R (Itr i (j - i).toNat) H1
theorem pi_range1 {a : Expr} {ta : TA} {p pos : Pos} (hg : Gl X "range") (hm : X.mg "range" = none) (ha : PA X [a] ta) (hs : starEach [a] X.env = [(false, eval a X.env)] := by rfl) : PI X tg (.Call (.Name "range" p) [a] [] pos) (iRng1 ta) := by
  intro pins s σ H R I h
  refine Call_ (ld_blt I hg hm boot_range (PyProof.Rows.callWith_type1 (thn (ha pos pins s σ H _ I h) fun us s1 ⟨vs, H1, I1, r1, q1⟩ => ?_) hs rfl))
  obtain ⟨j, e, q1, q2, q⟩ := q1
  subst e
  cases r1 with
  | cons r rr =>
    cases rr
    obtain ⟨t, rfl⟩ := r
    exact call_range_1 (range_it I1 (by omega) (by omega) q1 q2 (by simpa using q))
theorem pi_range2 {a b : Expr} {ta : TA} {p pos : Pos} (hg : Gl X "range") (hm : X.mg "range" = none) (ha : PA X [a, b] ta) (hs : starEach [a, b] X.env = [(false, eval a X.env), (false, eval b X.env)] := by rfl) (hs2 : starEach [b] X.env = [(false, eval b X.env)] := by rfl) :
    PI X tg (.Call (.Name "range" p) [a, b] [] pos) (iRng2 ta) := by
  intro pins s σ H R I h
  refine Call_ (ld_blt I hg hm boot_range (PyProof.Rows.callWith_type1 (thn (ha pos pins s σ H _ I h) fun us s1 ⟨vs, H1, I1, r1, q1⟩ => ?_) (by rw [hs, hs2]) (by rw [hs2]; rfl)))
  obtain ⟨i, j, e, ⟨q1, q2, q3, q4⟩, q⟩ := q1
  subst e
  cases r1 with
  | cons r rr =>
    cases rr with
    | cons r' rr =>
      cases rr
      obtain ⟨t, rfl⟩ := r
      obtain ⟨t', rfl⟩ := r'
      exact call_range_2 (range_it I1 q1 q2 q3 q4 q)

/-! ### for -/
/-- W: the invariant by the turn and a measure; N: what the body is to reach -/
def tFor (wi : TI) (g : TG) (tb : TS) : TS := fun D σ H => wi σ H fun J H1 => ∃ W : Nat → Nat → St → Hp → Prop, (∃ m, W 0 m σ H1) ∧ ∀ i m σ H, W i m σ H →
  (J.stop i H ∧ D.nx σ H) ∨ (J.go i H ∧ ∃ N : St → Hp → Prop, (∀ σ' H', N σ' H' → ∃ m', m' < m ∧ W (i + 1) m' σ' H') ∧ ∀ x H', J.yld i H x H' → g x σ H' fun σ2 H2 => tb { D with nx := N, ct := N, bk := D.nx } σ2 H2)
/-- the records at fp as they stand -/
def pinsAt (fp : List Addr) (h : Heap) : List (Addr × Obj) := fp.filterMap fun b => (h.get? b).map fun o => (b, o)
theorem mem_pinsAt {fp : List Addr} {h : Heap} {b : Addr} {o : Obj} (hb : b ∈ fp) (e : h.get? b = some o) : (b, o) ∈ pinsAt fp h := List.mem_filterMap.mpr ⟨b, hb, by rw [e]; rfl⟩
theorem of_pinsAt {fp : List Addr} {h : Heap} {p : Addr × Obj} (hp : p ∈ pinsAt fp h) : p.1 ∈ fp ∧ h.get? p.1 = some p.2 := by
  obtain ⟨b, hb, e⟩ := List.mem_filterMap.mp hp
  cases q : h.get? b with
  | none => rw [q] at e; cases e
  | some o =>
    rw [q] at e
    have e' : (b, o) = p := Option.some.inj e
    subst e'
    exact ⟨hb, q⟩
theorem Inv.pinned {pins : List (Addr × Obj)} {σ : St} {H : Hp} {s : Shared} {fp : List Addr} (I : Inv X pins σ H s) (hf : ∀ b ∈ fp, FpOk X pins H b) (ho : ∀ b ∈ fp, ∃ o, s.heap.get? b = some o ∧ ∀ v, o.data ≠ .cell v) : Inv X (pins ++ pinsAt fp s.heap) σ H s :=
  I.pins_of fun p hp => (List.mem_append.mp hp).elim (fun z => I.pin p (List.mem_append_right _ z)) fun z => by
    obtain ⟨hb, e⟩ := of_pinsAt z
    obtain ⟨f0, f1, f2, _⟩ := hf p.1 hb
    obtain ⟨o, e', d⟩ := ho p.1 hb
    rw [e] at e'; cases e'
    exact ⟨e, f0, f1, f2, d⟩
theorem Inv.unpinned {pins pl : List (Addr × Obj)} {σ : St} {H : Hp} {s : Shared} (I : Inv X (pins ++ pl) σ H s) : Inv X pins σ H s := I.pins_of fun p hp => I.pin p (List.mem_append_right _ (List.mem_append_left _ hp))
theorem ps_for {iter : Expr} {body : List Stmt} {wi : TI} {g : TG} {tb : TS} {pos : Pos} (hp : PassesOwn (model X.prog X.w) X.A X.env X.xe) (hc : X.calm = true) (hi : PI X tg iter wi) (hg : PG X tg g) (hb : PSs X body tb)
    (hs : ∀ x, foldedSetIterable iter X.env x = pure x := by intro _; rfl) : PS X (.For tg iter body [] pos) (tFor wi g tb) := by
  intro pins s σ H D I h
  refine wpAny_For (thn (hi pins s σ H _ I h) fun v s1 h1 => thn h1 fun itv s2 h2 => ?_) hs
  obtain ⟨it, fp, tn, J, H2, e, I2, T, st2, f2, W, ⟨m0, w0⟩, turn⟩ := h2
  subst e
  -- what stays true of the iterator's objects through the loop
  have stat : ∀ {H' : Hp}, (∀ b ∈ fp, H' b = none) → ∀ b ∈ fp, FpOk X pins H' b := fun hn b hb => ⟨hn b hb, (f2 b hb).2⟩
  refine codeAny_forLoop_any (fun n s' => ∃ i σ' H', Inv X pins σ' H' s' ∧ tn i s'.heap ∧ (∀ b ∈ fp, H' b = none) ∧ W i n σ' H') ?_ m0 ⟨0, σ, H2, I2, st2, fun b hb => (f2 b hb).1, w0⟩
  rintro n s3 ⟨i, σ3, H3, I3, st3, fr3, w3⟩
  rcases turn i n σ3 H3 w3 with ⟨stop, qn⟩ | ⟨go, N, hN, step⟩
  · refine wpAny_passesOwn hp (thn (T.done X rfl rfl rfl hc i pins s3 σ3 H3 X.xe I3 (stat fr3) st3 stop) fun r s4 ⟨hr, I4⟩ => ?_)
    subst hr
    exact wpAny_execs_nil ⟨σ3, H3, I4, qn⟩
  · refine wpAny_passesOwn hp (thn (T.item X rfl rfl rfl hc i pins s3 σ3 H3 X.xe I3 (stat fr3) st3 go) fun r s4 ⟨u, hr, h4⟩ => ?_)
    subst hr
    refine wpAny_passesOwn hp (thn h4 fun _ s5 ⟨x, H5, I5, r5, y5, st5, fr5⟩ => ?_)
    have I5' := I5.pinned (stat fr5) (T.obj _ _ st5)
    refine wpAny_passesOwn hp (thn (hg _ s5 σ3 H5 x u _ I5' r5 (step x H5 y5)) fun _ s6 ⟨σ6, H6, I6, q6⟩ => ?_)
    refine wpAny_passesOwn hp (thn (hb _ s6 σ6 H6 _ I6 q6) fun f s7 q7 => ?_)
    have again : ∀ {σ7 : St} {H7 : Hp}, Inv X (pins ++ pinsAt fp s5.heap) σ7 H7 s7 → N σ7 H7 → ∃ m, m < n ∧ ∃ i σ' H', Inv X pins σ' H' s7 ∧ tn i s7.heap ∧ (∀ b ∈ fp, H' b = none) ∧ W i m σ' H' := fun {σ7 H7} I7 n7 => by
      obtain ⟨m', hm, w7⟩ := hN σ7 H7 n7
      refine ⟨m', hm, i + 1, σ7, H7, I7.unpinned, T.keep _ _ _ st5 fun b hb o e => (I7.pin (b, o) (List.mem_append_right _ (List.mem_append_right _ (mem_pinsAt hb e)))).1, fun b hb => ?_, w7⟩
      obtain ⟨o, e, d⟩ := T.obj _ _ st5 b hb
      exact (I7.pin (b, o) (List.mem_append_right _ (List.mem_append_right _ (mem_pinsAt hb e)))).2.1
    cases f with
    | next => obtain ⟨σ7, H7, I7, n7⟩ := q7; exact again I7 n7
    | cont => obtain ⟨σ7, H7, I7, n7⟩ := q7; exact again I7 n7
    | brk => obtain ⟨σ7, H7, I7, q7⟩ := q7; exact ⟨σ7, H7, I7.unpinned, q7⟩
    | ret v => obtain ⟨x7, σ7, H7, I7, r7, q7⟩ := q7; exact ⟨x7, σ7, H7, I7.unpinned, r7, q7⟩
end

/-! ### the forms one uses -/
/-- over a list that the body leaves as it is -/
theorem for_list {K : PySem.W.Frag} {a : Addr} {xs : List V} {g : TG} {tb : TS} {D : Ends} {σ : St} {H : Hp} (Pv : Nat → St → Hp → Prop) (h0 : Pv 0 σ H) (hl : ∀ i σ H, i ≤ xs.length → Pv i σ H → SqL K H a xs)
    (hs : ∀ i x σ H, xs[i]? = some x → Pv i σ H → g x σ H fun σ2 H2 => tb { D with nx := Pv (i + 1), ct := Pv (i + 1), bk := D.nx } σ2 H2) (hd : ∀ σ H, Pv xs.length σ H → D.nx σ H) :
    ∃ W : Nat → Nat → St → Hp → Prop, (∃ m, W 0 m σ H) ∧ ∀ i m σ H, W i m σ H →
      ((Itl K a).stop i H ∧ D.nx σ H) ∨ ((Itl K a).go i H ∧ ∃ N : St → Hp → Prop, (∀ σ' H', N σ' H' → ∃ m', m' < m ∧ W (i + 1) m' σ' H') ∧ ∀ x H', (Itl K a).yld i H x H' → g x σ H' fun σ2 H2 => tb { D with nx := N, ct := N, bk := D.nx } σ2 H2) := by
  refine ⟨fun i m σ H => m = xs.length - i ∧ i ≤ xs.length ∧ Pv i σ H, ⟨xs.length, by simp, Nat.zero_le _, h0⟩, ?_⟩
  rintro i m σ H ⟨rfl, hi, p⟩
  have q := hl i σ H hi p
  by_cases hlt : i < xs.length
  · refine .inr ⟨⟨xs, xs[i], q, by simp [hlt]⟩, Pv (i + 1), fun σ' H' p' => ⟨xs.length - (i + 1), by omega, rfl, hlt, p'⟩, fun x H' y => ?_⟩
    obtain ⟨e, y⟩ := y
    subst e
    exact hs i x σ _ (y xs q) p
  · have e : i = xs.length := by omega
    subst e
    exact .inl ⟨⟨xs, q, Nat.le_refl _⟩, hd σ H p⟩
theorem for_tup {K : PySem.W.Frag} {a : Addr} {xs : List V} {g : TG} {tb : TS} {D : Ends} {σ : St} {H : Hp} (Pv : Nat → St → Hp → Prop) (h0 : Pv 0 σ H) (hl : ∀ i σ H, i ≤ xs.length → Pv i σ H → SqT K H a xs)
    (hs : ∀ i x σ H, xs[i]? = some x → Pv i σ H → g x σ H fun σ2 H2 => tb { D with nx := Pv (i + 1), ct := Pv (i + 1), bk := D.nx } σ2 H2) (hd : ∀ σ H, Pv xs.length σ H → D.nx σ H) :
    ∃ W : Nat → Nat → St → Hp → Prop, (∃ m, W 0 m σ H) ∧ ∀ i m σ H, W i m σ H →
      ((Itt K a).stop i H ∧ D.nx σ H) ∨ ((Itt K a).go i H ∧ ∃ N : St → Hp → Prop, (∀ σ' H', N σ' H' → ∃ m', m' < m ∧ W (i + 1) m' σ' H') ∧ ∀ x H', (Itt K a).yld i H x H' → g x σ H' fun σ2 H2 => tb { D with nx := N, ct := N, bk := D.nx } σ2 H2) := by
  refine ⟨fun i m σ H => m = xs.length - i ∧ i ≤ xs.length ∧ Pv i σ H, ⟨xs.length, by simp, Nat.zero_le _, h0⟩, ?_⟩
  rintro i m σ H ⟨rfl, hi, p⟩
  have q := hl i σ H hi p
  by_cases hlt : i < xs.length
  · refine .inr ⟨⟨xs, xs[i], q, by simp [hlt]⟩, Pv (i + 1), fun σ' H' p' => ⟨xs.length - (i + 1), by omega, rfl, hlt, p'⟩, fun x H' y => ?_⟩
    obtain ⟨e, y⟩ := y
    subst e
    exact hs i x σ _ (y xs q) p
  · have e : i = xs.length := by omega
    subst e
    exact .inl ⟨⟨xs, q, Nat.le_refl _⟩, hd σ H p⟩
theorem for_range {lo : Int} {n : Nat} {g : TG} {tb : TS} {D : Ends} {σ : St} {H : Hp} (Pv : Nat → St → Hp → Prop) (h0 : Pv 0 σ H)
    (hs : ∀ i σ H, i < n → Pv i σ H → g (.int (lo + i)) σ H fun σ2 H2 => tb { D with nx := Pv (i + 1), ct := Pv (i + 1), bk := D.nx } σ2 H2) (hd : ∀ σ H, Pv n σ H → D.nx σ H) :
    ∃ W : Nat → Nat → St → Hp → Prop, (∃ m, W 0 m σ H) ∧ ∀ i m σ H, W i m σ H →
      ((Itr lo n).stop i H ∧ D.nx σ H) ∨ ((Itr lo n).go i H ∧ ∃ N : St → Hp → Prop, (∀ σ' H', N σ' H' → ∃ m', m' < m ∧ W (i + 1) m' σ' H') ∧ ∀ x H', (Itr lo n).yld i H x H' → g x σ H' fun σ2 H2 => tb { D with nx := N, ct := N, bk := D.nx } σ2 H2) := by
  refine ⟨fun i m σ H => m = n - i ∧ i ≤ n ∧ Pv i σ H, ⟨n, by simp, Nat.zero_le _, h0⟩, ?_⟩
  rintro i m σ H ⟨rfl, hi, p⟩
  by_cases hlt : i < n
  · refine .inr ⟨hlt, Pv (i + 1), fun σ' H' p' => ⟨n - (i + 1), by omega, rfl, hlt, p'⟩, fun x H' y => ?_⟩
    obtain ⟨e, y⟩ := y
    subst e y
    exact hs i σ _ hlt p
  · have e : i = n := by omega
    subst e
    exact .inl ⟨Nat.le_refl _, hd σ H p⟩
/-- while, by a word and a measure of the state -/
theorem while_by {c : TT} {tb : TS} {D : Ends} {σ : St} {H : Hp} (Pv : St → Hp → Prop) (μ : St → Hp → Nat) (h0 : Pv σ H)
    (hs : ∀ σ H, Pv σ H → c σ H fun b H1 => if b = true then tb { D with nx := fun σ' H' => Pv σ' H' ∧ μ σ' H' < μ σ H, ct := fun σ' H' => Pv σ' H' ∧ μ σ' H' < μ σ H, bk := D.nx } σ H1 else D.nx σ H1)
    (mono : ∀ σ H Q Q', (∀ b H1, Q b H1 → Q' b H1) → c σ H Q → c σ H Q') : tWhile c tb D σ H := by
  refine ⟨fun m σ H => m = μ σ H ∧ Pv σ H, ⟨_, rfl, h0⟩, ?_⟩
  rintro m σ H ⟨rfl, p⟩
  refine mono σ H _ _ (fun b H1 q => ?_) (hs σ H p)
  cases b with
  | true => exact ⟨_, fun σ' H' ⟨p', l⟩ => ⟨_, l, rfl, p'⟩, q⟩
  | false => exact q
end L2

namespace L2
open PySem PySem.Spec PyProof.Rows

abbrev R2 := V → V → Hp → VK → Prop
/-- a two-place operation on values: f is binaryOp op, inplaceOp op or compareOp op -/
def OpR (X : Cx) (f : Value → Value → Sem Value) (r : R2) : Prop :=
  ∀ (pins : List (Addr × Obj)) (s : Shared) (σ : St) (H : Hp) (x y : V) (v u : Value) (Q : VK), Inv X pins σ H s → RelV x v → RelV y u → r x y H Q →
    wpAny (model X.prog X.w) X.A (f v u) (EP X pins σ Q) X.xe s
/-- a one-place operation -/
def UnR (X : Cx) (f : Value → Sem Value) (r : V → Hp → VK → Prop) : Prop :=
  ∀ (pins : List (Addr × Obj)) (s : Shared) (σ : St) (H : Hp) (x : V) (v : Value) (Q : VK), Inv X pins σ H s → RelV x v → r x H Q →
    wpAny (model X.prog X.w) X.A (f v) (EP X pins σ Q) X.xe s
/-- a call of a value that is known (a builtin, a type) with values -/
def CallR (X : Cx) (f : Value) (r : List V → Hp → VK → Prop) : Prop :=
  ∀ (pins : List (Addr × Obj)) (s : Shared) (σ : St) (H : Hp) (xs : List V) (us : List Value) (Q : VK), Inv X pins σ H s → Vals xs us → r xs H Q →
    wpAny (model X.prog X.w) X.A (call f us) (EP X pins σ Q) X.xe s
/-- a value's truth -/
def TruR (X : Cx) (r : V → Hp → (Bool → Hp → Prop) → Prop) : Prop :=
  ∀ (pins : List (Addr × Obj)) (s : Shared) (σ : St) (H : Hp) (x : V) (v : Value) (Q : Bool → Hp → Prop), Inv X pins σ H s → RelV x v → r x H Q →
    wpAny (model X.prog X.w) X.A (truthy v) (TP X pins σ Q) X.xe s

def tOp (r : R2) (ta tb : TE) : TE := fun σ H Q => ta σ H fun x H1 => tb σ H1 fun y H2 => r x y H2 Q
def tUn (r : V → Hp → VK → Prop) (ta : TE) : TE := fun σ H Q => ta σ H fun x H1 => r x H1 Q
/-- ints in, under C, and a value out -/
def rI (C : Int → Int → Prop) (g : Int → Int → V) : R2 := fun x y H Q => ∃ i j, x = .int i ∧ y = .int j ∧ C i j ∧ Q (g i j) H
def rI0 (g : Int → Int → V) : R2 := fun x y H Q => ∃ i j, x = .int i ∧ y = .int j ∧ Q (g i j) H
def rU (g : Int → V) : V → Hp → VK → Prop := fun x H Q => ∃ i, x = .int i ∧ Q (g i) H

section
variable {X : Cx} {a b c : Expr} {ta tb tc : TE} {pos : Pos}

theorem binT (ha : PE X a ta) (hb : PE X b tb) {pins : List (Addr × Obj)} {s : Shared} {σ : St} {H : Hp} {R : V → V → Hp → Prop} (I : Inv X pins σ H s)
    (h : ta σ H fun x H1 => tb σ H1 fun y H2 => R x y H2) {Q : Value → Shared → Prop} {f : Value → Value → Sem Value}
    (hf : ∀ v u s2 x y H2, Inv X pins σ H2 s2 → RelV x v → RelV y u → R x y H2 → wpAny (model X.prog X.w) X.A (f v u) Q X.xe s2) :
    wpAny (model X.prog X.w) X.A (eval a X.env) (fun v s₁ => wpAny (model X.prog X.w) X.A (eval b X.env) (fun u s₂ => wpAny (model X.prog X.w) X.A (f v u) Q X.xe s₂) X.xe s₁) X.xe s := by
  refine thn (ha pins s σ H _ I h) fun v s1 ⟨x, H1, I1, r1, q1⟩ => ?_
  refine thn (hb pins s1 σ H1 _ I1 q1) fun u s2 ⟨y, H2, I2, r2, q2⟩ => ?_
  exact hf v u s2 x y H2 I2 r1 r2 q2

theorem pe_op {op : Operator} {r : R2} (ho : OpR X (binaryOp op) r) (ha : PE X a ta) (hb : PE X b tb) : PE X (.BinOp a op b pos) (tOp r ta tb) := by
  intro pins s σ H Q I h
  exact wpAny_BinOp (binT ha hb I h fun v u s2 x y H2 I2 rx ry q => ho pins s2 σ H2 x y v u Q I2 rx ry q)
theorem pe_un {op : UnaryOp} {r : V → Hp → VK → Prop} (ho : UnR X (unaryOp op) r) (ha : PE X a ta) : PE X (.UnaryOp op a pos) (tUn r ta) := by
  intro pins s σ H Q I h
  exact UnaryOp_ (thn (ha pins s σ H _ I h) fun v s1 ⟨x, H1, I1, r1, q1⟩ => ho pins s1 σ H1 x v Q I1 r1 q1)
/-- a op= e at a name: the name's slot i -/
theorem augR {op : Operator} {r : R2} (ho : OpR X (inplaceOp op) r) {pins : List (Addr × Obj)} {s : Shared} {σ : St} {H : Hp} {x y : V} {v u : Value} {Q : VK} (I : Inv X pins σ H s)
    (rx : RelV x v) (ry : RelV y u) (q : r x y H Q) : wpAny (model X.prog X.w) X.A (inplaceOp op v u) (EP X pins σ Q) X.xe s := ho pins s σ H x y v u Q I rx ry q

/-! ### ints -/
theorem opI {f : Value → Value → Sem Value} {C : Int → Int → Prop} {g : Int → Int → Int}
    (rule : ∀ (i j : Int) (t u : Tok) (s : Shared) (Q : Value → Shared → Prop) (E : Value → Shared → Prop), C i j → Q (.int (g i j) s.toks) { s with toks := s.toks + 1 } → wpAny (model X.prog X.w) X.A (f (.int i t) (.int j u)) Q E s) :
    OpR X f (rI C fun i j => .int (g i j)) := by
  intro pins s σ H x y v u Q I rx ry h
  obtain ⟨i, j, rfl, rfl, hc, q⟩ := h
  obtain ⟨t, rfl⟩ := rx
  obtain ⟨t', rfl⟩ := ry
  exact rule i j t t' s _ _ hc ⟨.int (g i j), H, I.tok _, ⟨_, rfl⟩, q⟩
theorem opI0 {f : Value → Value → Sem Value} {g : Int → Int → Int}
    (rule : ∀ (i j : Int) (t u : Tok) (s : Shared) (Q : Value → Shared → Prop) (E : Value → Shared → Prop), Q (.int (g i j) s.toks) { s with toks := s.toks + 1 } → wpAny (model X.prog X.w) X.A (f (.int i t) (.int j u)) Q E s) :
    OpR X f (rI0 fun i j => .int (g i j)) := by
  intro pins s σ H x y v u Q I rx ry h
  obtain ⟨i, j, rfl, rfl, q⟩ := h
  obtain ⟨t, rfl⟩ := rx
  obtain ⟨t', rfl⟩ := ry
  exact rule i j t t' s _ _ ⟨.int (g i j), H, I.tok _, ⟨_, rfl⟩, q⟩
theorem opB0 {f : Value → Value → Sem Value} {g : Int → Int → Bool}
    (rule : ∀ (i j : Int) (t u : Tok) (s : Shared) (Q : Value → Shared → Prop) (E : Value → Shared → Prop), Q (.bool (g i j)) s → wpAny (model X.prog X.w) X.A (f (.int i t) (.int j u)) Q E s) :
    OpR X f (rI0 fun i j => .bl (g i j)) := by
  intro pins s σ H x y v u Q I rx ry h
  obtain ⟨i, j, rfl, rfl, q⟩ := h
  obtain ⟨t, rfl⟩ := rx
  obtain ⟨t', rfl⟩ := ry
  exact rule i j t t' s _ _ ⟨.bl (g i j), H, I, rfl, q⟩

def CDiv (i j : Int) : Prop := 0 < j ∧ j < 1073741824
def CDivN (i j : Int) : Prop := j ≠ 0 ∧ j.natAbs < 1073741824
def CPow (i j : Int) : Prop := 0 ≤ j ∧ j ≤ 1000000 ∧ i.natAbs < 2 ^ 64
def CMul (i j : Int) : Prop := (-(2 ^ 64) < i ∧ i < 2 ^ 64) ∨ (-(2 ^ 64) < j ∧ j < 2 ^ 64)
theorem CMul.ok {i j : Int} (h : CMul i j) : IntMulOk i j := by
  rcases h with ⟨h1, h2⟩ | ⟨h1, h2⟩
  · exact .of_left (intBits_le_64 h1 h2)
  · exact .of_right (intBits_le_64 h1 h2)
theorem two_pow_nn (k : Nat) : (0 : Int) ≤ 2 ^ k := by
  rw [two_pow_cast]
  exact Int.natCast_nonneg _

theorem op_add : OpR X (binaryOp .Add) (rI0 fun i j => .int (i + j)) := opI0 fun _ _ _ _ _ _ _ q => add_int q
theorem op_sub : OpR X (binaryOp .Sub) (rI0 fun i j => .int (i - j)) := opI0 fun _ _ _ _ _ _ _ q => sub_int q
theorem op_mul : OpR X (binaryOp .Mult) (rI CMul fun i j => .int (i * j)) := opI fun _ _ _ _ _ _ _ hc q => mul_int q hc.ok
/-- // by a positive divisor -/
theorem op_fdiv : OpR X (binaryOp .FloorDiv) (rI CDiv fun i j => .int (i / j)) := opI fun i j _ _ _ _ _ hc q => by
  have h1 : (0 : Int) < j := hc.1
  have h2 : j < 1073741824 := hc.2
  exact floordiv_int (by omega) (by rw [Int.fdiv_eq_ediv_of_nonneg i (by omega)]; exact q) (.inl (PyProof.noPylong_small (by omega)))
theorem op_fdivN : OpR X (binaryOp .FloorDiv) (rI CDivN fun i j => .int (i.fdiv j)) := opI fun _ _ _ _ _ _ _ hc q => floordiv_int hc.1 q (.inl (PyProof.noPylong_small hc.2))
/-- % by a positive divisor of any size -/
theorem op_mod : OpR X (binaryOp .Mod) (rI (fun _ j => 0 < j) fun i j => .int (i % j)) := opI fun i j _ _ _ _ _ hc q => by
  have h1 : (0 : Int) < j := hc
  exact mod_int' (by omega) (by rw [Int.fmod_eq_emod_of_nonneg i (by omega)]; exact q)
theorem op_modN : OpR X (binaryOp .Mod) (rI (fun _ j => j ≠ 0) fun i j => .int (i.fmod j)) := opI fun _ _ _ _ _ _ _ hc q => mod_int' hc q
theorem op_pow : OpR X (binaryOp .Pow) (rI CPow fun i j => .int (i ^ j.toNat)) := opI fun _ _ _ _ _ _ _ hc q => pow_int_small hc.1 hc.2.1 hc.2.2 q
theorem op_shl : OpR X (binaryOp .LShift) (rI CPow fun i j => .int (i * 2 ^ j.toNat)) := opI fun _ _ _ _ _ _ _ hc q => lshift_int_small hc.1 hc.2.1 hc.2.2 q
theorem op_shr : OpR X (binaryOp .RShift) (rI (fun _ j => 0 ≤ j) fun i j => .int (i / 2 ^ j.toNat)) := opI fun i j _ _ _ _ _ hc q =>
  rshift_int hc (by rw [Int.fdiv_eq_ediv_of_nonneg i (two_pow_nn _)]; exact q)
theorem op_and : OpR X (binaryOp .BitAnd) (rI0 fun i j => .int (Builtin.bitAnd i j)) := opI0 fun _ _ _ _ _ _ _ q => and_int q
theorem op_or : OpR X (binaryOp .BitOr) (rI0 fun i j => .int (Builtin.bitOr i j)) := opI0 fun _ _ _ _ _ _ _ q => or_int q
theorem op_xor : OpR X (binaryOp .BitXor) (rI0 fun i j => .int (Builtin.bitXor i j)) := opI0 fun _ _ _ _ _ _ _ q => xor_int q

theorem iop_add : OpR X (inplaceOp .Add) (rI0 fun i j => .int (i + j)) := opI0 fun _ _ _ _ _ _ _ q => iadd_int q
theorem iop_sub : OpR X (inplaceOp .Sub) (rI0 fun i j => .int (i - j)) := opI0 fun _ _ _ _ _ _ _ q => isub_int q
theorem iop_mul : OpR X (inplaceOp .Mult) (rI CMul fun i j => .int (i * j)) := opI fun _ _ _ _ _ _ _ hc q => imul_int q hc.ok
theorem iop_fdiv : OpR X (inplaceOp .FloorDiv) (rI CDiv fun i j => .int (i / j)) := opI fun i j _ _ _ _ _ hc q => by
  have h1 : (0 : Int) < j := hc.1
  have h2 : j < 1073741824 := hc.2
  exact ifloordiv_int (by omega) (by rw [Int.fdiv_eq_ediv_of_nonneg i (by omega)]; exact q) (.inl (PyProof.noPylong_small (by omega)))
theorem iop_mod : OpR X (inplaceOp .Mod) (rI (fun _ j => 0 < j) fun i j => .int (i % j)) := opI fun i j _ _ _ _ _ hc q => by
  have h1 : (0 : Int) < j := hc
  exact imod_int (by omega) (by rw [Int.fmod_eq_emod_of_nonneg i (by omega)]; exact q)
theorem iop_shl : OpR X (inplaceOp .LShift) (rI CPow fun i j => .int (i * 2 ^ j.toNat)) := opI fun _ _ _ _ _ _ _ hc q => ilshift_int_small hc.1 hc.2.1 hc.2.2 q
theorem iop_shr : OpR X (inplaceOp .RShift) (rI (fun _ j => 0 ≤ j) fun i j => .int (i / 2 ^ j.toNat)) := opI fun i j _ _ _ _ _ hc q =>
  irshift_int hc (by rw [Int.fdiv_eq_ediv_of_nonneg i (two_pow_nn _)]; exact q)
theorem iop_and : OpR X (inplaceOp .BitAnd) (rI0 fun i j => .int (Builtin.bitAnd i j)) := opI0 fun _ _ _ _ _ _ _ q => iand_int q
theorem iop_or : OpR X (inplaceOp .BitOr) (rI0 fun i j => .int (Builtin.bitOr i j)) := opI0 fun _ _ _ _ _ _ _ q => ior_int q
theorem iop_xor : OpR X (inplaceOp .BitXor) (rI0 fun i j => .int (Builtin.bitXor i j)) := opI0 fun _ _ _ _ _ _ _ q => ixor_int q

theorem unI {f : Value → Sem Value} {g : Int → Int}
    (rule : ∀ (i : Int) (t : Tok) (s : Shared) (Q : Value → Shared → Prop) (E : Value → Shared → Prop), Q (.int (g i) s.toks) { s with toks := s.toks + 1 } → wpAny (model X.prog X.w) X.A (f (.int i t)) Q E s) :
    UnR X f (rU fun i => .int (g i)) := by
  intro pins s σ H x v Q I rx h
  obtain ⟨i, rfl, q⟩ := h
  obtain ⟨t, rfl⟩ := rx
  exact rule i t s _ _ ⟨.int (g i), H, I.tok _, ⟨_, rfl⟩, q⟩
theorem un_neg : UnR X (unaryOp .USub) (rU fun i => .int (-i)) := unI fun _ _ _ _ _ q => neg_int q
theorem un_inv : UnR X (unaryOp .Invert) (rU fun i => .int (Builtin.bitNot i)) := unI fun _ _ _ _ _ q => invert_int q

/-! ### bools among ints: n += (a < b) -/
theorem op_add_ib : OpR X (binaryOp .Add) (fun x y H Q => ∃ i k, x = .int i ∧ y = .bl k ∧ Q (.int (i + b2i k)) H) := by
  intro pins s σ H x y v u Q I rx ry h
  obtain ⟨i, k, rfl, rfl, q⟩ := h
  obtain ⟨t, rfl⟩ := rx
  cases ry
  exact add_int_bool ⟨.int (i + b2i k), H, I.tok _, ⟨_, rfl⟩, q⟩
end

/-! ### comparisons -/
/-- the scalars that == tells apart as data does -/
def scal : V → V → Bool
  | .non, .non => true | .non, .int _ => true | .int _, .non => true | .non, .bl _ => true | .bl _, .non => true | .non, .str _ => true | .str _, .non => true
  | .int _, .int _ => true | .bl _, .bl _ => true | .str _, .str _ => true | .byt _, .byt _ => true
  | .int _, .str _ => true | .str _, .int _ => true | .bl _, .str _ => true | .str _, .bl _ => true
  | _, _ => false
def rEq : R2 := fun x y H Q => scal x y = true ∧ Q (.bl (decide (x = y))) H
def rNe : R2 := fun x y H Q => scal x y = true ∧ Q (.bl (!decide (x = y))) H

theorem dec_int {i j : Int} : decide (V.int i = V.int j) = (i == j) := by
  rw [Bool.eq_iff_iff]
  simp
theorem dec_bl {i j : Bool} : decide (V.bl i = V.bl j) = (i == j) := by
  rw [Bool.eq_iff_iff]
  simp
theorem dec_str {i j : Str} : decide (V.str i = V.str j) = (i == j) := by
  rw [Bool.eq_iff_iff]
  simp
theorem dec_byt {i j : Array UInt8} : decide (V.byt i = V.byt j) = (i.toList == j.toList) := by
  rw [Bool.eq_iff_iff]
  cases i
  cases j
  simp

section
variable {X : Cx} {a b c : Expr} {ta tb tc : TE} {pos : Pos}
theorem fin_bl {pins : List (Addr × Obj)} {σ : St} {H : Hp} {s : Shared} {Q : VK} {k k' : Bool} (I : Inv X pins σ H s) (q : Q (.bl k) H) (e : k = k') : EP X pins σ Q (.bool k') s := by
  subst e
  exact ⟨.bl k, H, I, rfl, q⟩
theorem op_eq : OpR X (compareOp .Eq) rEq := by
  intro pins s σ H x y v u Q I rx ry h
  obtain ⟨hs, q⟩ := h
  cases x with
  | non =>
    cases rx
    cases y with
    | non => cases ry; exact PySem.EqNone.eq_none_none (fin_bl I q (by simp))
    | bl j => cases ry; exact PySem.EqNone.eq_none_bool (fin_bl I q (by simp))
    | int j => obtain ⟨t', rfl⟩ := ry; exact PySem.EqNone.eq_none_int (fin_bl I q (by simp))
    | str j => obtain ⟨t', rfl⟩ := ry; exact PySem.EqNone.eq_none_str (fin_bl I q (by simp))
    | _ => exact absurd (show false = true from hs) Bool.false_ne_true
  | bl i =>
    cases rx
    cases y with
    | non => cases ry; exact PySem.EqNone.eq_bool_none (fin_bl I q (by simp))
    | bl j => cases ry; exact eq_bool (fin_bl I q dec_bl)
    | str j => obtain ⟨t', rfl⟩ := ry; exact PySem.EqMixed.eq_bool_str (fin_bl I q (by simp))
    | _ => exact absurd (show false = true from hs) Bool.false_ne_true
  | int i =>
    obtain ⟨t, rfl⟩ := rx
    cases y with
    | non => cases ry; exact PySem.EqNone.eq_int_none (fin_bl I q (by simp))
    | int j => obtain ⟨t', rfl⟩ := ry; exact eq_int (fin_bl I q dec_int)
    | str j => obtain ⟨t', rfl⟩ := ry; exact PySem.EqMixed.eq_int_str (fin_bl I q (by simp))
    | _ => exact absurd (show false = true from hs) Bool.false_ne_true
  | str i =>
    obtain ⟨t, rfl⟩ := rx
    cases y with
    | non => cases ry; exact PySem.EqNone.eq_str_none (fin_bl I q (by simp))
    | bl j => cases ry; exact PySem.EqMixed.eq_str_bool (fin_bl I q (by simp))
    | int j => obtain ⟨t', rfl⟩ := ry; exact PySem.EqMixed.eq_str_int (fin_bl I q (by simp))
    | str j => obtain ⟨t', rfl⟩ := ry; exact eq_str (fin_bl I q dec_str)
    | _ => exact absurd (show false = true from hs) Bool.false_ne_true
  | byt i =>
    obtain ⟨t, rfl⟩ := rx
    cases y with
    | byt j => obtain ⟨t', rfl⟩ := ry; exact PySem.W.eq_bytes (fin_bl I q dec_byt)
    | _ => exact absurd (show false = true from hs) Bool.false_ne_true
  | _ => cases y <;> exact absurd (show false = true from hs) Bool.false_ne_true
theorem op_ne : OpR X (compareOp .NotEq) rNe := by
  intro pins s σ H x y v u Q I rx ry h
  obtain ⟨hs, q⟩ := h
  cases x with
  | non =>
    cases rx
    cases y with
    | non => cases ry; exact PySem.EqNone.ne_none_none (fin_bl I q (by simp))
    | bl j => cases ry; exact PySem.EqNone.ne_none_bool (fin_bl I q (by simp))
    | int j => obtain ⟨t', rfl⟩ := ry; exact PySem.EqNone.ne_none_int (fin_bl I q (by simp))
    | str j => obtain ⟨t', rfl⟩ := ry; exact PySem.EqNone.ne_none_str (fin_bl I q (by simp))
    | _ => exact absurd (show false = true from hs) Bool.false_ne_true
  | bl i =>
    cases rx
    cases y with
    | non => cases ry; exact PySem.EqNone.ne_bool_none (fin_bl I q (by simp))
    | bl j => cases ry; exact ne_bool (fin_bl I q (congrArg not dec_bl))
    | str j => obtain ⟨t', rfl⟩ := ry; exact PySem.EqMixed.ne_bool_str (fin_bl I q (by simp))
    | _ => exact absurd (show false = true from hs) Bool.false_ne_true
  | int i =>
    obtain ⟨t, rfl⟩ := rx
    cases y with
    | non => cases ry; exact PySem.EqNone.ne_int_none (fin_bl I q (by simp))
    | int j => obtain ⟨t', rfl⟩ := ry; exact ne_int (fin_bl I q (congrArg not dec_int))
    | str j => obtain ⟨t', rfl⟩ := ry; exact PySem.EqMixed.ne_int_str (fin_bl I q (by simp))
    | _ => exact absurd (show false = true from hs) Bool.false_ne_true
  | str i =>
    obtain ⟨t, rfl⟩ := rx
    cases y with
    | non => cases ry; exact PySem.EqNone.ne_str_none (fin_bl I q (by simp))
    | bl j => cases ry; exact PySem.EqMixed.ne_str_bool (fin_bl I q (by simp))
    | int j => obtain ⟨t', rfl⟩ := ry; exact PySem.EqMixed.ne_str_int (fin_bl I q (by simp))
    | str j => obtain ⟨t', rfl⟩ := ry; exact ne_str (fin_bl I q (congrArg not dec_str))
    | _ => exact absurd (show false = true from hs) Bool.false_ne_true
  | byt i =>
    obtain ⟨t, rfl⟩ := rx
    cases y with
    | byt j => obtain ⟨t', rfl⟩ := ry; exact PySem.W.ne_bytes (fin_bl I q (congrArg not dec_byt))
    | _ => exact absurd (show false = true from hs) Bool.false_ne_true
  | _ => cases y <;> exact absurd (show false = true from hs) Bool.false_ne_true

theorem op_lt : OpR X (compareOp .Lt) (rI0 fun i j => .bl (decide (i < j))) := opB0 fun _ _ _ _ _ _ _ q => lt_int q
theorem op_le : OpR X (compareOp .LtE) (rI0 fun i j => .bl (decide (i ≤ j))) := opB0 fun _ _ _ _ _ _ _ q => le_int q
theorem op_gt : OpR X (compareOp .Gt) (rI0 fun i j => .bl (decide (j < i))) := opB0 fun _ _ _ _ _ _ _ q => gt_int q
theorem op_ge : OpR X (compareOp .GtE) (rI0 fun i j => .bl (decide (j ≤ i))) := opB0 fun _ _ _ _ _ _ _ q => ge_int q
theorem op_lt_str : OpR X (compareOp .Lt) (fun x y H Q => ∃ i j, x = .str i ∧ y = .str j ∧ Q (.bl (decide (i.cps.toList < j.cps.toList))) H) := by
  intro pins s σ H x y v u Q I rx ry h
  obtain ⟨i, j, rfl, rfl, q⟩ := h
  obtain ⟨t, rfl⟩ := rx
  obtain ⟨t', rfl⟩ := ry
  exact lt_str (fin_bl I q rfl)
/-- the one string within the other -/
theorem op_in_str : OpR X (compareOp .In) (fun x y H Q => ∃ i j, x = .str i ∧ y = .str j ∧ Q (.bl (!(Builtin.Str.occurrences j i 0 j.length 1).isEmpty)) H) := by
  intro pins s σ H x y v u Q I rx ry h
  obtain ⟨i, j, rfl, rfl, q⟩ := h
  obtain ⟨t, rfl⟩ := rx
  obtain ⟨t', rfl⟩ := ry
  exact in_str (fin_bl I q rfl)

/-- is None, is not None: the right side a value none -/
theorem op_isN : OpR X (compareOp .Is) (fun x y H Q => y = .non ∧ Q (.bl (decide (x = .non))) H) := by
  intro pins s σ H x y v u Q I rx ry h
  obtain ⟨rfl, q⟩ := h
  cases ry
  refine is_none_gen (fin_bl I q ?_)
  cases x <;> first
    | (cases rx; rfl)
    | (obtain ⟨t, rfl⟩ := rx; rfl)
theorem op_notN : OpR X (compareOp .IsNot) (fun x y H Q => y = .non ∧ Q (.bl (!decide (x = .non))) H) := by
  intro pins s σ H x y v u Q I rx ry h
  obtain ⟨rfl, q⟩ := h
  cases ry
  refine isnot_none_gen (fin_bl I q ?_)
  cases x <;> first
    | (cases rx; rfl)
    | (obtain ⟨t, rfl⟩ := rx; rfl)

theorem op_notin_str : OpR X (compareOp .NotIn) (fun x y H Q => ∃ i j, x = .str i ∧ y = .str j ∧ Q (.bl (!(!(Builtin.Str.occurrences j i 0 j.length 1).isEmpty))) H) := by
  intro pins s σ H x y v u Q I rx ry h
  obtain ⟨i, j, rfl, rfl, q⟩ := h
  obtain ⟨t, rfl⟩ := rx
  obtain ⟨t', rfl⟩ := ry
  exact notIn_str (fin_bl I q rfl)
/-- is, is not of two objects that are tracked lists or instances -/
def isObj : HO → Bool
  | .lst _ => true
  | .ins _ _ _ => true
  | _ => false
theorem obj_there {pins : List (Addr × Obj)} {s : Shared} {σ : St} {H : Hp} {a : Addr} {o : HO} (I : Inv X pins σ H s) (h : H a = some o) (p : isObj o = true) : ∃ ob, s.heap.get? a = some ob ∧ ob.cls ≠ .type "tuple" := by
  cases o with
  | lst xs =>
    obtain ⟨_, its, n, _, e⟩ : xs.length ≤ sizeLine ∧ ∃ (its : List Value) (n : Nat), Vals xs its ∧ s.heap.get? a = some { cls := .type "list", data := .seq its.toArray n } := I.hok a _ h
    exact ⟨_, e, (by show Value.type "list" ≠ .type "tuple"; decide +kernel)⟩
  | ins C dx fs =>
    have x := I.hok a _ h
    obtain ⟨_, _, _, e, _⟩ := x
    exact ⟨_, e, (by show Value.ref C ≠ .type "tuple"; exact fun z => by cases z)⟩
  | _ => exact absurd (show false = true from p) Bool.false_ne_true
theorem op_is_ref : OpR X (compareOp .Is) (fun x y H Q => ∃ a b oa ob, x = .ref a ∧ y = .ref b ∧ H a = some oa ∧ isObj oa = true ∧ H b = some ob ∧ isObj ob = true ∧ Q (.bl (decide (a = b))) H) := by
  intro pins s σ H x y v u Q I rx ry h
  obtain ⟨a, b, oa, ob, rfl, rfl, ha, pa, hb, pb, q⟩ := h
  cases rx
  cases ry
  obtain ⟨o1, e1, n1⟩ := obj_there I ha pa
  obtain ⟨o2, e2, _⟩ := obj_there I hb pb
  by_cases z : a = b
  · subst z
    exact wpAny_is_ref_self (fin_bl I q (by simp))
  · exact wpAny_is_ref_other z e1 e2 n1 (fin_bl I q (by simp [z]))
theorem op_isnot_ref : OpR X (compareOp .IsNot) (fun x y H Q => ∃ a b oa ob, x = .ref a ∧ y = .ref b ∧ H a = some oa ∧ isObj oa = true ∧ H b = some ob ∧ isObj ob = true ∧ Q (.bl (!decide (a = b))) H) := by
  intro pins s σ H x y v u Q I rx ry h
  obtain ⟨a, b, oa, ob, rfl, rfl, ha, pa, hb, pb, q⟩ := h
  cases rx
  cases ry
  obtain ⟨o1, e1, n1⟩ := obj_there I ha pa
  obtain ⟨o2, e2, _⟩ := obj_there I hb pb
  by_cases z : a = b
  · subst z
    exact wpAny_isNot_ref_self (fin_bl I q (by simp))
  · exact wpAny_isNot_ref_other z e1 e2 n1 (fin_bl I q (by simp [z]))

/-- two rules for one operation: by cases -/
theorem OpR.or {f : Value → Value → Sem Value} {r r' : R2} (h : OpR X f r) (h' : OpR X f r') : OpR X f (fun x y H Q => r x y H Q ∨ r' x y H Q) := by
  intro pins s σ H x y v u Q I rx ry q
  rcases q with q | q
  · exact h pins s σ H x y v u Q I rx ry q
  · exact h' pins s σ H x y v u Q I rx ry q

theorem nomark (b : Expr) {op : CmpOp} (h : op ≠ .In := by decide) (h2 : op ≠ .NotIn := by decide) : behindInMarks op b = false := by
  have e1 : (op == CmpOp.In) = false := by cases op <;> first | rfl | exact absurd rfl h
  have e2 : (op == CmpOp.NotIn) = false := by cases op <;> first | rfl | exact absurd rfl h2
  cases b <;> simp [behindInMarks, e1, e2]
/-- a comparison as a value; hm: nomark b, or (for in, not in) by with_unfolding_all rfl -/
theorem pe_cmpR {op : CmpOp} {r : R2} (ho : OpR X (compareOp op) r) (ha : PE X a ta) (hb : PE X b tb) (hm : behindInMarks op b = false) : PE X (.Compare a [op] [b] pos) (tOp r ta tb) := by
  intro pins s σ H Q I h
  exact wpAny_Compare1 (binT ha hb I h fun v u s2 x y H2 I2 rx ry q => ho pins s2 σ H2 x y v u Q I2 rx ry q) hm
/-- a reading of a value as a test -/
def tTest (t : TE) : TT := fun σ H Q => t σ H fun x H' => ∃ k, x = .bl k ∧ Q k H'
theorem pt_cmpR {op : CmpOp} {r : R2} (ho : OpR X (compareOp op) r) (ha : PE X a ta) (hb : PE X b tb) (hm : behindInMarks op b = false) : PT X (.Compare a [op] [b] pos) (tTest (tOp r ta tb)) := by
  intro pins s σ H Q I h
  refine wpAny_isTrue_Compare1 (thn (ha pins s σ H _ I h) fun v s1 ⟨x, H1, I1, r1, q1⟩ => thn (hb pins s1 σ H1 _ I1 q1) fun u s2 ⟨y, H2, I2, r2, q2⟩ =>
    thn (ho pins s2 σ H2 x y v u _ I2 r1 r2 q2) fun c s3 ⟨z, H3, I3, r3, k, e, q3⟩ => ?_) hm
  subst e
  cases r3
  exact wpAny_truthy_bool ⟨H3, I3, q3⟩
/-- a op1 b op2 c -/
def tChain (r r' : R2) (ta tb tc : TE) : TE := fun σ H Q => ta σ H fun x H1 => tb σ H1 fun y H2 => r x y H2 fun z H3 => ∃ k, z = .bl k ∧
  (if k = true then tc σ H3 fun w' H4 => r' y w' H4 Q else Q (.bl false) H3)
theorem pe_chain {op op' : CmpOp} {r r' : R2} (ho : OpR X (compareOp op) r) (ho' : OpR X (compareOp op') r') (ha : PE X a ta) (hb : PE X b tb) (hc : PE X c tc)
    (hm : lastMarks [op, op'] [b, c] = false := by with_unfolding_all rfl) : PE X (.Compare a [op, op'] [b, c] pos) (tChain r r' ta tb tc) := by
  intro pins s σ H Q I h
  refine Compare_chain (thn (ha pins s σ H _ I h) fun v s1 ⟨x, H1, I1, r1, q1⟩ => chain_link (thn (hb pins s1 σ H1 _ I1 q1) fun u s2 ⟨y, H2, I2, r2, q2⟩ =>
    thn (ho pins s2 σ H2 x y v u _ I2 r1 r2 q2) fun d s3 ⟨z, H3, I3, r3, k, e, q3⟩ => ?_)) hm
  subst e
  cases r3
  refine wpAny_truthy_bool ?_
  cases k with
  | false => exact ite_ff ⟨.bl false, H3, I3, rfl, q3⟩
  | true => exact ite_tt (chain_last (thn (hc pins s3 σ H3 _ I3 q3) fun w' s4 ⟨z', H4, I4, r4, q4⟩ => ho' pins s4 σ H4 y z' u w' Q I4 r2 r4 q4))
theorem pt_chain {op op' : CmpOp} {r r' : R2} (ho : OpR X (compareOp op) r) (ho' : OpR X (compareOp op') r') (ha : PE X a ta) (hb : PE X b tb) (hc : PE X c tc)
    (hm : lastMarks [op, op'] [b, c] = false := by with_unfolding_all rfl) : PT X (.Compare a [op, op'] [b, c] pos) (tTest (tChain r r' ta tb tc)) := by
  intro pins s σ H Q I h
  refine isTrue_chain (thn (ha pins s σ H _ I h) fun v s1 ⟨x, H1, I1, r1, q1⟩ => test_link (thn (hb pins s1 σ H1 _ I1 q1) fun u s2 ⟨y, H2, I2, r2, q2⟩ =>
    thn (ho pins s2 σ H2 x y v u _ I2 r1 r2 q2) fun d s3 ⟨z, H3, I3, r3, k, e, q3⟩ => ?_)) hm
  subst e
  cases r3
  refine wpAny_truthy_bool ?_
  cases k with
  | false =>
    obtain ⟨k', e', q'⟩ := q3
    cases e'
    exact ite_ff ⟨H3, I3, q'⟩
  | true =>
    refine ite_tt (test_last (thn (hc pins s3 σ H3 _ I3 q3) fun w' s4 ⟨z', H4, I4, r4, q4⟩ => thn (ho' pins s4 σ H4 y z' u w' _ I4 r2 r4 q4) fun d' s5 ⟨z2, H5, I5, r5, k2, e2, q5⟩ => ?_))
    subst e2
    cases r5
    exact wpAny_truthy_bool ⟨H5, I5, q5⟩

/-! ### truth -/
/-- a value's truth by the abstract heap -/
def TruV (K : PySem.W.Frag) (x : V) (H : Hp) (k : Bool) : Prop :=
  match x with
  | .non => k = false
  | .bl b => k = b
  | .int i => k = (i != 0)
  | .str y => y.length ≤ sizeLine ∧ k = ((y.length : Int) != 0)
  | .byt y => y.size ≤ sizeLine ∧ k = ((y.size : Int) != 0)
  | .ref p => (∃ xs, SqL K H p xs ∧ k = !xs.isEmpty) ∨ (∃ xs, SqT K H p xs ∧ k = !xs.isEmpty) ∨ ∃ kvs, H p = some (.dK kvs) ∧ k = !kvs.isEmpty
  | _ => False
theorem isEmpty_kv {κ : Type} {kvs : List (κ × V)} {vs : List (κ × Value)} (r : KV kvs vs) : (!vs.isEmpty) = !kvs.isEmpty := by
  cases r <;> rfl
theorem isEmpty_of {xs : List V} {its : List Value} (r : Vals xs its) : (!its.toArray.isEmpty) = !xs.isEmpty := by
  cases r <;> simp
theorem line63 : (sizeLine : Nat) < 2 ^ 63 := by rw [sizeLine_eq]; decide
theorem tru_ok : TruR X (fun x H Q => ∃ k, TruV X.K x H k ∧ Q k H) := by
  intro pins s σ H x v Q I rx h
  obtain ⟨k, e, q⟩ := h
  have hl := line63
  have hs : sizeLine = 16777216 := sizeLine_eq
  cases x with
  | non =>
    cases rx
    have e' : k = false := e
    subst e'
    exact truthy_none ⟨H, I, q⟩
  | bl b =>
    cases rx
    have e' : k = b := e
    subst e'
    exact wpAny_truthy_bool ⟨H, I, q⟩
  | int i =>
    obtain ⟨t, rfl⟩ := rx
    have e' : k = (i != 0) := e
    subst e'
    exact PySem.P.truthy_int ⟨H, I, q⟩
  | str y =>
    obtain ⟨t, rfl⟩ := rx
    obtain ⟨hy, e'⟩ : y.length ≤ sizeLine ∧ k = ((y.length : Int) != 0) := e
    subst e'
    exact PySem.P.truthy_str (by omega) ⟨H, I.tok _, q⟩
  | byt y =>
    obtain ⟨t, rfl⟩ := rx
    obtain ⟨hy, e'⟩ : y.size ≤ sizeLine ∧ k = ((y.size : Int) != 0) := e
    subst e'
    exact PySem.W.truthy_bytes (by omega) ⟨H, I.tok _, q⟩
  | ref p =>
    cases rx
    have e' : (∃ xs, SqL X.K H p xs ∧ k = !xs.isEmpty) ∨ (∃ xs, SqT X.K H p xs ∧ k = !xs.isEmpty) ∨ ∃ kvs, H p = some (.dK kvs) ∧ k = !kvs.isEmpty := e
    rcases e' with ⟨xs, hx, e'⟩ | ⟨xs, hx, e'⟩ | ⟨kvs, hx, e'⟩
    · subst e'
      obtain ⟨its, r, pl, hz⟩ := I.list hx
      have hlen := r.length
      exact wpAny_truthy_list pl.isList (by simp only [List.size_toArray]; omega) ⟨H, I.tok _, by rw [isEmpty_of r]; exact q⟩
    · subst e'
      obtain ⟨its, r, pl, hz⟩ := I.tuple hx
      have hlen := r.length
      exact truthy_tuple pl (by simp only [List.size_toArray]; omega) ⟨H, I.tok _, by rw [isEmpty_of r]; exact q⟩
    · subst e'
      obtain ⟨hz, hS, vs, r, m⟩ : kvs.length ≤ sizeLine ∧ (p == sysModules) = false ∧ ∃ vs, KV kvs vs ∧ s.heap.DictOf (mixKind X.prog X.w) p vs := I.hok p _ hx
      have hlen : kvs.length = vs.length := Paired.length r
      exact wpAny_truthy_dict hS m (by omega) ⟨H, I.tok _, by rw [isEmpty_kv r]; exact q⟩
  | _ => exact (show False from e).elim
/-- any expression whose test is its value's truth (a name, a call, a subscript, a field ..: he by fun _ => rfl) -/
theorem pt_truth (ha : PE X a ta) (he : ∀ whole, isTrue a X.env whole = (do let v ← whole; standAt a.pos; holding [v] (truthy v))) :
    PT X a (fun σ H Q => ta σ H fun x H' => ∃ k, TruV X.K x H' k ∧ Q k H') := by
  intro pins s σ H Q I h
  exact isTrue_plain (thn (ha pins s σ H _ I h) fun v s1 ⟨x, H1, I1, r1, q1⟩ => tru_ok pins s1 σ H1 x v Q I1 r1 q1) (he _)

/-! ### strs and bytes -/
theorem pe_byt {x : List UInt8} {k : Nat} : PE X (.Constant (.bytes x) k pos) (fun _ H Q => Q (.byt x.toArray) H) := fun _ _ _ H _ I h => PySem.W.Constant_bytes ⟨.byt x.toArray, H, I.tok _, ⟨_, rfl⟩, h⟩
theorem op_add_str : OpR X (binaryOp .Add) (fun x y H Q => ∃ i j, x = .str i ∧ y = .str j ∧ i.length + j.length ≤ sizeLine ∧ Q (.str (i ++ j)) H) := by
  intro pins s σ H x y v u Q I rx ry h
  obtain ⟨i, j, rfl, rfl, hz, q⟩ := h
  obtain ⟨t, rfl⟩ := rx
  obtain ⟨t', rfl⟩ := ry
  exact add_str (fun t' tk => ⟨.str (i ++ j), H, I.tok _, ⟨_, rfl⟩, q⟩) hz
theorem iop_add_str : OpR X (inplaceOp .Add) (fun x y H Q => ∃ i j, x = .str i ∧ y = .str j ∧ i.length + j.length ≤ sizeLine ∧ Q (.str (i ++ j)) H) := by
  intro pins s σ H x y v u Q I rx ry h
  obtain ⟨i, j, rfl, rfl, hz, q⟩ := h
  obtain ⟨t, rfl⟩ := rx
  obtain ⟨t', rfl⟩ := ry
  exact iadd_str (fun t' tk => ⟨.str (i ++ j), H, I.tok _, ⟨_, rfl⟩, q⟩) hz
theorem op_add_byt : OpR X (binaryOp .Add) (fun x y H Q => ∃ i j, x = .byt i ∧ y = .byt j ∧ i.size + j.size ≤ 16777216 ∧ Q (.byt (i ++ j)) H) := by
  intro pins s σ H x y v u Q I rx ry h
  obtain ⟨i, j, rfl, rfl, hz, q⟩ := h
  obtain ⟨t, rfl⟩ := rx
  obtain ⟨t', rfl⟩ := ry
  exact PySem.W.KBy.add_bytes hz (fun t' tk => ⟨.byt (i ++ j), H, I.tok _, ⟨_, rfl⟩, q⟩)

def PlainIxT (b : Expr) : Prop := ∀ o i, subscripted b false o i = operate [o, i] (getItem o i)
/-- s[i], 0 ≤ i < len -/
theorem pe_item_str (ha : PE X a ta) (hb : PE X b tb) (hs : PlainIxT b) :
    PE X (.Subscript a b pos) (tOp (fun x y H Q => ∃ z i c, x = .str z ∧ y = .int i ∧ 0 ≤ i ∧ i < 2 ^ 63 ∧ i < z.length ∧ z.cps[i.toNat]? = some c ∧ Q (.str ⟨#[c]⟩) H) ta tb) := by
  intro pins s σ H Q I h
  refine Subscript_ (binT ha hb I h fun v u s2 x y H2 I2 rx ry q => ?_)
  obtain ⟨z, i, c, rfl, rfl, h0, h63, h1, hc, q⟩ := q
  obtain ⟨t, rfl⟩ := rx
  obtain ⟨t', rfl⟩ := ry
  have e : seqIndex? i z.length = some i.toNat := PySem.StrLaws.seqIndex_nonneg h0 h1
  exact tail_any (typeIs_str s2 z t) slot_str_getitem.lookup (getItem_str (c := c) (by
    have e1 : decide (i < -(2 ^ 63 : Int)) = false := decide_eq_false (by omega)
    have e2 : decide (i ≥ 2 ^ 63) = false := decide_eq_false (by omega)
    rw [e1, e2] <;> rfl) (by rw [e]; exact hc) ⟨.str ⟨#[c]⟩, H2, I2.tok _, ⟨_, rfl⟩, q⟩) (hs _ _)
/-- b[i], 0 ≤ i < len -/
theorem pe_item_byt (ha : PE X a ta) (hb : PE X b tb) (hs : PlainIxT b) :
    PE X (.Subscript a b pos) (tOp (fun x y H Q => ∃ (z : List UInt8) (i : Int), x = .byt z.toArray ∧ y = .int i ∧ z.length ≤ sizeLine ∧ 0 ≤ i ∧ i < z.length ∧ Q (.int ((z.getD i.toNat 0).toNat : Nat)) H) ta tb) := by
  intro pins s σ H Q I h
  refine Subscript_ (binT ha hb I h fun v u s2 x y H2 I2 rx ry q => ?_)
  obtain ⟨z, i, rfl, rfl, hz, h0, h1, q⟩ := q
  obtain ⟨t, rfl⟩ := rx
  obtain ⟨t', rfl⟩ := ry
  have hl : sizeLine = 16777216 := sizeLine_eq
  exact tail_any (PySem.W.typeIs_bytes s2 z.toArray t) PySem.W.FB.slot_bytes_getitem.lookup (PySem.W.getItem_bytes (by omega) h0 h1 ⟨.int ((z.getD i.toNat 0).toNat : Nat), H2, I2.tok _, ⟨_, rfl⟩, q⟩) (hs _ _)

/-! ### scalar builtins, by CallR -/
theorem vals1 {x : V} {us : List Value} (r : Vals [x] us) : ∃ u, us = [u] ∧ RelV x u := by
  cases r with
  | cons r1 r2 => cases r2; exact ⟨_, rfl, r1⟩
theorem vals2 {x y : V} {us : List Value} (r : Vals [x, y] us) : ∃ u w', us = [u, w'] ∧ RelV x u ∧ RelV y w' := by
  cases r with
  | cons r1 r2 =>
    cases r2 with
    | cons r3 r4 => cases r4; exact ⟨_, _, rfl, r1, r3⟩
theorem call_abs : CallR X (.builtin "abs") (fun xs H Q => ∃ i, xs = [.int i] ∧ Q (.int (if i < 0 then -i else i)) H) := by
  intro pins s σ H xs us Q I r h
  obtain ⟨i, rfl, q⟩ := h
  obtain ⟨u, rfl, t, rfl⟩ := vals1 r
  exact call_abs_int fun u tk => ⟨.int (if i < 0 then -i else i), H, I.tok _, ⟨_, rfl⟩, q⟩
theorem call_max2 (hc : X.calm = true) : CallR X (.builtin "max") (fun xs H Q => ∃ i j, xs = [.int i, .int j] ∧ Q (.int (if j > i then j else i)) H) := by
  intro pins s σ H xs us Q I r h
  obtain ⟨i, j, rfl, q⟩ := h
  obtain ⟨u, w', rfl, ⟨t, rfl⟩, ⟨t', rfl⟩⟩ := vals2 r
  refine max_two_ints (I.ok.hd hc) fun h' tk k => ⟨_, H, I.kept k, ?_, q⟩
  by_cases hj : j > i
  · rw [if_pos hj, if_pos hj]; exact ⟨_, rfl⟩
  · rw [if_neg hj, if_neg hj]; exact ⟨_, rfl⟩
theorem call_min2 (hc : X.calm = true) : CallR X (.builtin "min") (fun xs H Q => ∃ i j, xs = [.int i, .int j] ∧ Q (.int (if j < i then j else i)) H) := by
  intro pins s σ H xs us Q I r h
  obtain ⟨i, j, rfl, q⟩ := h
  obtain ⟨u, w', rfl, ⟨t, rfl⟩, ⟨t', rfl⟩⟩ := vals2 r
  refine min_two_ints (I.ok.hd hc) fun h' tk k => ⟨_, H, I.kept k, ?_, q⟩
  by_cases hj : j < i
  · rw [if_pos hj, if_pos hj]; exact ⟨_, rfl⟩
  · rw [if_neg hj, if_neg hj]; exact ⟨_, rfl⟩
theorem call_int1 : CallR X (.type "int") (fun xs H Q => (∃ i, xs = [.int i] ∧ Q (.int i) H) ∨ ∃ k, xs = [.bl k] ∧ Q (.int (if k then 1 else 0)) H) := by
  intro pins s σ H xs us Q I r h
  rcases h with ⟨i, rfl, q⟩ | ⟨k, rfl, q⟩
  · obtain ⟨u, rfl, t, rfl⟩ := vals1 r
    exact call_int_int ⟨.int i, H, I, ⟨_, rfl⟩, q⟩
  · obtain ⟨u, rfl, r1⟩ := vals1 r
    cases r1
    exact call_int_bool ⟨.int (if k then 1 else 0), H, I.tok _, ⟨_, rfl⟩, q⟩
theorem call_bool1 : CallR X (.type "bool") (fun xs H Q => (∃ i, xs = [.int i] ∧ Q (.bl (i != 0)) H) ∨ ∃ k, xs = [.bl k] ∧ Q (.bl k) H) := by
  intro pins s σ H xs us Q I r h
  rcases h with ⟨i, rfl, q⟩ | ⟨k, rfl, q⟩
  · obtain ⟨u, rfl, t, rfl⟩ := vals1 r
    exact call_bool_int ⟨.bl (i != 0), H, I, rfl, q⟩
  · obtain ⟨u, rfl, r1⟩ := vals1 r
    cases r1
    exact call_bool_bool ⟨.bl k, H, I, rfl, q⟩
theorem call_str_int : CallR X (.type "str") (fun xs H Q => ∃ i, xs = [.int i] ∧ i.natAbs.log2 < 1920 ∧ Q (.str (toString i)) H) := by
  intro pins s σ H xs us Q I r h
  obtain ⟨i, rfl, hz, q⟩ := h
  obtain ⟨u, rfl, t, rfl⟩ := vals1 r
  exact PySem.P.str_of_int hz ⟨.str _, H, I.tok _, ⟨_, rfl⟩, q⟩
theorem call_ord : CallR X (.builtin "ord") (fun xs H Q => ∃ x, xs = [.str x] ∧ x.length = 1 ∧ Q (.int (x.cps.getD 0 0 : Nat)) H) := by
  intro pins s σ H xs us Q I r h
  obtain ⟨x, rfl, hz, q⟩ := h
  obtain ⟨u, rfl, t, rfl⟩ := vals1 r
  exact ord_of_one hz ⟨.int _, H, I.tok _, ⟨_, rfl⟩, q⟩
theorem call_chr : CallR X (.builtin "chr") (fun xs H Q => ∃ i, xs = [.int i] ∧ 0 ≤ i ∧ i ≤ 1114111 ∧ Q (.str ⟨#[i.toNat]⟩) H) := by
  intro pins s σ H xs us Q I r h
  obtain ⟨i, rfl, h0, h1, q⟩ := h
  obtain ⟨u, rfl, t, rfl⟩ := vals1 r
  exact chr_of_range h0 h1 ⟨.str _, H, I.tok _, ⟨_, rfl⟩, q⟩
/-- len of a str, a bytes, a list, a tuple -/
def LenV (K : PySem.W.Frag) (x : V) (H : Hp) (n : Nat) : Prop :=
  match x with
  | .str y => y.length ≤ sizeLine ∧ n = y.length
  | .byt y => y.size ≤ sizeLine ∧ n = y.size
  | .ref p => (∃ xs, SqL K H p xs ∧ n = xs.length) ∨ ∃ xs, SqT K H p xs ∧ n = xs.length
  | _ => False
theorem call_len : CallR X (.builtin "len") (fun xs H Q => ∃ x n, xs = [x] ∧ LenV X.K x H n ∧ Q (.int n) H) := by
  intro pins s σ H xs us Q I r h
  obtain ⟨x, n, rfl, e, q⟩ := h
  obtain ⟨u, rfl, rx⟩ := vals1 r
  have hl := line63
  have hs : sizeLine = 16777216 := sizeLine_eq
  cases x with
  | str y =>
    obtain ⟨t, rfl⟩ := rx
    obtain ⟨hy, e'⟩ : y.length ≤ sizeLine ∧ n = y.length := e
    subst e'
    exact len_str (by omega) ⟨.int _, H, I.tok _, ⟨_, rfl⟩, q⟩
  | byt y =>
    obtain ⟨t, rfl⟩ := rx
    obtain ⟨hy, e'⟩ : y.size ≤ sizeLine ∧ n = y.size := e
    subst e'
    exact PySem.W.len_bytes (by omega) ⟨.int _, H, I.tok _, ⟨_, rfl⟩, q⟩
  | ref p =>
    cases rx
    have e' : (∃ xs, SqL X.K H p xs ∧ n = xs.length) ∨ ∃ xs, SqT X.K H p xs ∧ n = xs.length := e
    rcases e' with ⟨xs, hx, e'⟩ | ⟨xs, hx, e'⟩
    · subst e'
      obtain ⟨its, r', pl, hz⟩ := I.list hx
      have hlen := r'.length
      exact Calls.call_len_list pl.isList (by simp only [List.size_toArray]; omega) ⟨.int xs.length, H, I.tok _, ⟨_, by simp only [List.size_toArray]; rw [hlen]⟩, q⟩
    · subst e'
      obtain ⟨its, r', pl, hz⟩ := I.tuple hx
      have hlen := r'.length
      exact len_tuple pl (by simp only [List.size_toArray]; omega) ⟨.int xs.length, H, I.tok _, ⟨_, by simp only [List.size_toArray]; rw [hlen]⟩, q⟩
  | _ => exact (show False from e).elim
/-- divmod: a new tuple -/
theorem call_divmod : CallR X (.builtin "divmod") (fun xs H Q => ∃ i j, xs = [.int i, .int j] ∧ CDiv i j ∧ ∀ p, H p = none → Q (.ref p) (upd H p (.tup [.int (i / j), .int (i % j)]))) := by
  intro pins s σ H xs us Q I r h
  obtain ⟨i, j, rfl, ⟨h1, h2⟩, q⟩ := h
  obtain ⟨u, w', rfl, ⟨t, rfl⟩, ⟨t', rfl⟩⟩ := vals2 r
  refine divmod_int (by omega) ?_ (.inl (PyProof.noPylong_small (by omega)))
  rw [Int.fdiv_eq_ediv_of_nonneg i (by omega), Int.fmod_eq_emod_of_nonneg i (by omega)]
  have hn : H s.heap.objs.size = none := I.hok.fresh (Nat.le_refl _)
  refine ⟨.ref s.heap.objs.size, _, ?_, rfl, q _ hn⟩
  refine I.laid (fun b o e => Heap.get?_push_of_some _ e) (Nat.le_refl _) ⟨by simp only [List.length_cons, List.length_nil]; rw [sizeLine_eq]; decide, [.int (i / j) s.toks, .int (i % j) (s.toks + 1)], .cons ⟨_, rfl⟩ (.cons ⟨_, rfl⟩ .nil), ?_⟩
  exact ⟨_, Heap.get?_push_size s.heap rfl, rfl, 0, rfl⟩
end
end L2

namespace L2
open PySem PySem.Spec PyProof.Rows

/-! ### an instance, its attributes a map -/
structure ObjM (h : Heap) (x dx C : Addr) (mA : Str → Option Value) : Prop where
  obj : h.get? x = some (PySem.W.instObj C dx)
  ns : h.Ns1 dx mA
  ne : dx ≠ x

theorem lookIn_ns {h : Heap} {dx : Addr} {mA : Str → Option Value} (n : h.Ns1 dx mA) : ∃ od, h.get? dx = some od ∧ ∀ name, PySem.W.lookIn name od = some (mA name) := by
  obtain ⟨o, es, ep, ho, hd, hk, _, hm⟩ := n
  refine ⟨o, ho, fun name => ?_⟩
  have e := hm name
  unfold nsFind findBy at e
  rw [← Array.find?_toList] at e
  unfold PySem.W.lookIn
  rw [hd]
  dsimp only
  split
  · rename_i y q
    rw [q] at e
    exact congrArg some e
  · rename_i q
    rw [q] at e
    have a : es.toList.any (·.refKey) = false := by
      rw [List.any_eq_false]
      intro y hy
      obtain ⟨z, t, hkey⟩ := hk y (Array.mem_toList_iff.mp hy)
      simp [DictEntry.refKey, hkey]
    have a' : ¬ es.toList.any (·.refKey) = true := by rw [a]; exact Bool.false_ne_true
    rw [if_neg a']
    exact congrArg some e

theorem ObjM.look {h : Heap} {x dx C : Addr} {mA : Str → Option Value} (I : ObjM h x dx C mA) : ∃ od, PySem.W.InstAt h x (PySem.W.instObj C dx) C (some od) ∧ ∀ name, PySem.W.lookIn name od = some (mA name) :=
  let ⟨od, ho, hl⟩ := lookIn_ns I.ns
  ⟨od, ⟨I.obj, rfl, rfl, ho⟩, hl⟩

section
variable {prog : Program} {w : World} {A : Around} {E : Value → Shared → Prop} {s : Shared} {K : PySem.W.Frag} {x dx C f : Addr} {mA : Str → Option Value} {name : Str} {v : Value}

theorem get_map {expr : Bool} {Q : Value → Shared → Prop} (X : K.In s.heap) (I : ObjM s.heap x dx C mA) (hg : PySem.W.plainGet K C name = true) (hh : PySem.W.hasDictIn K C = true)
    (ha : PySem.W.findIn K (.ref C) name = some none) (hv : mA name = some v) (hv' : PySem.W.handedIn v = true) (h : Q v { s with toks := s.toks + 1 }) :
    wpAny (model prog w) A (getAttr (.ref x) name expr) Q E s := by
  obtain ⟨od, J, hl⟩ := I.look
  exact PySem.W.get_value X J (PySem.W.plainGet_of hg).1 (PySem.W.findObj_own hh ha rfl (by rw [hl, hv])) hv' h

theorem get_const {expr : Bool} {a : Value} {Q : Value → Shared → Prop} (X : K.In s.heap) (I : ObjM s.heap x dx C mA) (hg : PySem.W.plainGet K C name = true) (hh : PySem.W.hasDictIn K C = true)
    (ha : PySem.W.findIn K (.ref C) name = some (some a)) (hn : PySem.W.specialIn K a "__get__" = some none) (hc : PySem.W.copiedNames.contains name = false) (hv : mA name = none) (hv' : PySem.W.handedIn a = true)
    (h : Q a { s with toks := s.toks + 1 }) : wpAny (model prog w) A (getAttr (.ref x) name expr) Q E s := by
  obtain ⟨od, J, hl⟩ := I.look
  exact PySem.W.get_value X J (PySem.W.plainGet_of hg).1 (PySem.W.findObj_cls hh ha hn hv' hc (by rw [hl, hv])) hv' h

theorem get_meth {pl : Sem Bool} {Q : Value × List Value → Shared → Prop} (X : K.In s.heap) (I : ObjM s.heap x dx C mA) (hg : PySem.W.plainGet K C name = true)
    (hf : PySem.W.findIn K (.ref C) name = some (some (.ref f))) (ht : PySem.W.isFn K (.ref f) = true) (hv : mA name = none) (h : Q (.ref f, [.ref x]) s) :
    wpAny (model prog w) A (getMethod (.ref x) name pl) Q E s := by
  obtain ⟨od, J, hl⟩ := I.look
  exact PySem.W.method_fn X J (PySem.W.plainGet_of hg).1 (PySem.W.plainGet_of hg).2 hf (beq_iff_eq.mp ht) (by show (PySem.W.lookIn name od).map (·.isSome) = some false; rw [hl, hv]; rfl) h

theorem set_map {ns : List Str} {Q : Unit → Shared → Prop} (X : K.In s.heap) (I : ObjM s.heap x dx C mA)
    (hs : PySem.W.findIn K (.ref C) "__setattr__" = some (some (.builtin "object.__setattr__"))) (hp : PySem.W.plainOver K C = true) (ht : PySem.W.takerIn K C name = some none) (hh : PySem.W.hasDictIn K C = true)
    (hw : PySem.Within mA ns) (hsz : ns.length ≤ sizeLine)
    (h : ∀ h', ObjM h' x dx C (fun y => if y = name then some v else mA y) → Heap.SameBut dx s.heap h' → Q () { s with heap := h', toks := s.toks + 2 }) :
    wpAny (model prog w) A (setAttr (.ref x) name v) Q E s := by
  obtain ⟨od, J, hl⟩ := I.look
  refine PySem.W.set_plain X J hs (PySem.W.osa_open (s := { s with toks := s.toks + 1 }) (r := none) X J hp ht fun b => ?_)
  obtain ⟨cd, hc, hd'⟩ := PySem.W.any_some hh
  have hx : s.heap.get? x = some ⟨.ref C, some dx, .plain, #[]⟩ := I.obj
  refine wpAny_bind (wpAny_pure (wpAny_bind (wpAny_bind (wpAny_loadPart hx (wpAny_bind (PySem.W.Looks.here (s := { s with toks := s.toks + 1 }) (PySem.W.looks_clsIn X hc) ?_))))))
  rw [hd']
  refine wpAny_pure (a := some dx) (wpAny_bind (wpAny_pure (wpAny_bind ?_)))
  refine wpAny_nsSet1 (s := { s with toks := s.toks + 1 }) I.ns fun h' hn2 hs2 => ?_
  obtain ⟨oD, esD, epD, hoD, hdD, hcD⟩ := hn2.count (PySem.Within.cons name v hw)
  refine wpAny_bind (wpAny_lookBehind hoD (by rw [hdD]; exact pastItsLine_dict (Nat.le_trans hcD (by rw [List.length_cons]; omega))) ?_)
  exact wpAny_pure (h _ ⟨(hs2.2 _ (Ne.symm I.ne)).trans I.obj, hn2, I.ne⟩ hs2)

/-- C(..): the dict at the heap's end, the instance behind it; then its __init__ -/
theorem make_map {R : Result → Shared → Prop} {vs : List Value} {kw : List (Str × Value)} (X : K.In s.heap) (hm : PySem.W.makesIn K C = true)
    (hi : PySem.W.findIn K (.ref C) "__init__" = some (some (.ref f))) (hf : PySem.W.typeIn K (.ref f) = some (.type "function"))
    (h : codeAny (model prog w) (A.under (.builtin "type.__call__" ⟨.ref C :: vs, kw⟩)) (.call (.ref f) ⟨.ref (s.heap.objs.size + 1) :: vs, kw⟩) (PySem.W.InitBack (s.heap.objs.size + 1) R)
      { s with heap := (s.heap.push PySem.W.emptyDict).push (PySem.W.instObj C s.heap.objs.size) }) :
    codeAny (model prog w) A (.call (.ref C) ⟨vs, kw⟩) R s := by
  obtain ⟨hh, g, d, t, os⟩ := s
  exact PySem.W.make_core (PySem.W.makes_of X hm) (PySem.W.looks_findIn X hi) (fun self => PySem.W.bind_fn X self hf) (.inl rfl) h
/-- C() where there is no __init__ but object's -/
theorem make_map0 {R : Result → Shared → Prop} (X : K.In s.heap) (hm : PySem.W.makesIn K C = true)
    (hi : PySem.W.findIn K (.ref C) "__init__" = some (some (.builtin "object.__init__")))
    (hb : ∀ self, PySem.W.Looks (model prog w) s.heap (bindSpecial (.builtin "object.__init__") self) (.builtin "object.__init__", [self]))
    (h : codeAny (model prog w) (A.under (.builtin "type.__call__" ⟨[.ref C], []⟩)) (.call (.builtin "object.__init__") ⟨[.ref (s.heap.objs.size + 1)], []⟩) (PySem.W.InitBack (s.heap.objs.size + 1) R)
      { s with heap := (s.heap.push PySem.W.emptyDict).push (PySem.W.instObj C s.heap.objs.size) }) :
    codeAny (model prog w) A (.call (.ref C) ⟨[], []⟩) R s := by
  obtain ⟨hh, g, d, t, os⟩ := s
  exact PySem.W.make_core (PySem.W.makes_of X hm) (PySem.W.looks_findIn X hi) hb (.inr ⟨rfl, rfl⟩) h
end

/-! ### the attributes as a list of pairs -/
def putF (f : Str) (v : V) : List (Str × V) → List (Str × V)
  | [] => [(f, v)]
  | (g, x) :: r => if g = f then (g, v) :: r else (g, x) :: putF f v r
theorem lookup_putF (f g : Str) (v : V) : ∀ fs : List (Str × V), (putF f v fs).lookup g = if g = f then some v else fs.lookup g
  | [] => by
    show List.lookup g [(f, v)] = _
    by_cases h : g = f
    · have hb : (g == f) = true := beq_iff_eq.mpr h
      simp only [List.lookup, hb, if_pos h]
    · have hb : (g == f) = false := beq_eq_false_iff_ne.mpr h
      simp only [List.lookup, hb, if_neg h]
  | (k, x) :: r => by
    have ih := lookup_putF f g v r
    rw [show putF f v ((k, x) :: r) = (if k = f then (k, v) :: r else (k, x) :: putF f v r) from rfl]
    by_cases hk : k = f
    · rw [if_pos hk]
      by_cases h : g = k
      · have hb : (g == k) = true := beq_iff_eq.mpr h
        simp only [List.lookup, hb, if_pos (h.trans hk)]
      · have hb : (g == k) = false := beq_eq_false_iff_ne.mpr h
        simp only [List.lookup, hb, if_neg (fun e : g = f => h (e.trans hk.symm))]
    · rw [if_neg hk]
      by_cases h : g = k
      · have hb : (g == k) = true := beq_iff_eq.mpr h
        simp only [List.lookup, hb, if_neg (fun e : g = f => hk (h.symm.trans e))]
      · have hb : (g == k) = false := beq_eq_false_iff_ne.mpr h
        simp only [List.lookup, hb]
        exact ih
theorem keys_putF (f : Str) (v : V) : ∀ fs : List (Str × V), f ∈ (putF f v fs).map (·.1) ∧ ∀ g, g ∈ fs.map (·.1) → g ∈ (putF f v fs).map (·.1)
  | [] => ⟨by simp [putF], fun g h => by simp at h⟩
  | (k, x) :: r => by
    obtain ⟨i1, i2⟩ := keys_putF f v r
    rw [show putF f v ((k, x) :: r) = (if k = f then (k, v) :: r else (k, x) :: putF f v r) from rfl]
    by_cases hk : k = f
    · rw [if_pos hk]
      subst hk
      exact ⟨by simp, fun g h => by simpa using h⟩
    · rw [if_neg hk]
      refine ⟨?_, fun g h => ?_⟩
      · rw [List.map_cons]
        exact List.mem_cons_of_mem _ i1
      · rw [List.map_cons] at h ⊢
        rcases List.mem_cons.mp h with e | e
        · exact List.mem_cons.mpr (.inl e)
        · exact List.mem_cons_of_mem _ (i2 g e)
theorem length_putF (f : Str) (v : V) : ∀ fs : List (Str × V), (putF f v fs).length ≤ fs.length + 1
  | [] => by simp [putF]
  | (k, x) :: r => by
    have ih := length_putF f v r
    rw [show putF f v ((k, x) :: r) = (if k = f then (k, v) :: r else (k, x) :: putF f v r) from rfl]
    by_cases hk : k = f
    · rw [if_pos hk, List.length_cons, List.length_cons]; omega
    · rw [if_neg hk, List.length_cons, List.length_cons]; omega

theorem RelO.some_of {v : V} {o : Option Value} (r : RelO (some v) o) : ∃ u, o = some u ∧ RelV v u := by
  cases o with
  | none => exact (show False from r).elim
  | some u => exact ⟨u, rfl, r⟩
theorem RelO.none_of {o : Option Value} (r : RelO none o) : o = none := by
  cases o with
  | none => rfl
  | some u => exact (show False from r).elim
theorem handed_of {v : V} {u : Value} (r : RelV v u) : PySem.W.handedIn u = true := by
  cases v with
  | non => cases (show u = Value.none from r); rfl
  | bl b => cases (show u = Value.bool b from r); rfl
  | int i => obtain ⟨t, e⟩ := (show ∃ t, u = Value.int i t from r); cases e; rfl
  | str x => obtain ⟨t, e⟩ := (show ∃ t, u = Value.str x t from r); cases e; rfl
  | byt b => obtain ⟨t, e⟩ := (show ∃ t, u = Value.bytes b t from r); cases e; rfl
  | flt b => obtain ⟨t, e⟩ := (show ∃ t, u = Value.float b t from r); cases e; rfl
  | ref a => cases (show u = Value.ref a from r); rfl
  | ty n => cases (show u = Value.type n from r); rfl

section
variable {P : Program} {w : World} {H H' : Hp} {h h' : Heap} {a C dx : Addr} {fs fs' : List (Str × V)}
theorem ins_get (hok : HOk P w H h) (e : H a = some (.ins C dx fs)) : ∃ mA, ObjM h a dx C mA ∧ (∀ f, RelO (fs.lookup f) (mA f)) ∧ PySem.Within mA (fs.map (·.1)) ∧ fs.length ≤ 1000 ∧ H dx = some (.own a) := by
  obtain ⟨d, z, ne, ob, mA, n, r, q⟩ := (show ObjOk P w H h a (.ins C dx fs) from hok a _ e)
  exact ⟨mA, ⟨ob, n, ne⟩, r, q, z, d⟩
end

/-! ### what of the text a class must have -/
structure Cls (K : PySem.W.Frag) (C : Addr) : Prop where
  pg : PySem.W.plainGet K C Str.empty = true
  hd : PySem.W.hasDictIn K C = true
  po : PySem.W.plainOver K C = true
  sa : PySem.W.findIn K (.ref C) "__setattr__" = some (some (.builtin "object.__setattr__"))
theorem Cls.get {K : PySem.W.Frag} {C : Addr} (c : Cls K C) (f : Str) : PySem.W.plainGet K C f = true := c.pg
/-- no class of it has the name -/
def NoAttr (K : PySem.W.Frag) (C : Addr) (f : Str) : Prop := PySem.W.findIn K (.ref C) f = some none
theorem NoAttr.taker {K : PySem.W.Frag} {C : Addr} {f : Str} (n : NoAttr K C f) : PySem.W.takerIn K C f = some none := by
  unfold PySem.W.takerIn
  rw [show PySem.W.findIn K (.ref C) f = some none from n]
  rfl
/-- a constant of the class -/
structure Con (K : PySem.W.Frag) (C : Addr) (f : Str) (v : V) (u : Value) : Prop where
  at_ : PySem.W.findIn K (.ref C) f = some (some u)
  rel : RelV v u
  get : PySem.W.specialIn K u "__get__" = some none
  cp : PySem.W.copiedNames.contains f = false
/-- a method: a plain def of the class or of one above it -/
structure Meth (K : PySem.W.Frag) (C : Addr) (m : Str) (f : Addr) : Prop where
  at_ : PySem.W.findIn K (.ref C) m = some (some (.ref f))
  fn : PySem.W.isFn K (.ref f) = true
  kp : PySem.W.keepIn K (.ref f) = true

section
variable {X : Cx} {pins : List (Addr × Obj)} {σ : St} {H : Hp} {s : Shared} {a C dx : Addr} {fs : List (Str × V)} {f : Str} {v : V} {A : Around} {E : Value → Shared → Prop}

theorem getattr_ok {b : Bool} {Q : Value → Shared → Prop} (I : Inv X pins σ H s) (e : H a = some (.ins C dx fs)) (c : Cls X.K C) (n : NoAttr X.K C f) (l : fs.lookup f = some v)
    (h : ∀ u s', Inv X pins σ H s' → RelV v u → Q u s') : wpAny (model X.prog X.w) A (getAttr (.ref a) f b) Q E s := by
  obtain ⟨mA, O, r, _, _, _⟩ := ins_get I.hok e
  obtain ⟨u, hu, ru⟩ := RelO.some_of (v := v) (o := mA f) (by rw [← l]; exact r f)
  exact get_map I.kIn O (c.get f) c.hd n hu (handed_of ru) (h u _ (I.tok _) ru)

theorem getcon_ok {b : Bool} {u : Value} {Q : Value → Shared → Prop} (I : Inv X pins σ H s) (e : H a = some (.ins C dx fs)) (c : Cls X.K C) (k : Con X.K C f v u) (l : fs.lookup f = none)
    (h : ∀ s', Inv X pins σ H s' → Q u s') : wpAny (model X.prog X.w) A (getAttr (.ref a) f b) Q E s := by
  obtain ⟨mA, O, r, _, _, _⟩ := ins_get I.hok e
  have hn : mA f = none := RelO.none_of (by rw [← l]; exact r f)
  exact get_const I.kIn O (c.get f) c.hd k.at_ k.get k.cp hn (handed_of k.rel) (h _ (I.tok _))

theorem getmeth_ok {m : Str} {g : Addr} {pl : Sem Bool} {Q : Value × List Value → Shared → Prop} (I : Inv X pins σ H s) (e : H a = some (.ins C dx fs)) (c : Cls X.K C) (k : Meth X.K C m g) (l : fs.lookup m = none)
    (h : Q (.ref g, [.ref a]) s) : wpAny (model X.prog X.w) A (getMethod (.ref a) m pl) Q E s := by
  obtain ⟨mA, O, r, _, _, _⟩ := ins_get I.hok e
  have hn : mA m = none := RelO.none_of (by rw [← l]; exact r m)
  exact get_meth I.kIn O (c.get m) k.at_ k.fn hn h

theorem setattr_ok {y : V} {u : Value} {Q : Unit → Shared → Prop} (I : Inv X pins σ H s) (e : H a = some (.ins C dx fs)) (c : Cls X.K C) (n : NoAttr X.K C f) (hl : fs.length < 1000) (ry : RelV y u)
    (h : ∀ s', Inv X pins σ (upd H a (.ins C dx (putF f y fs))) s' → Q () s') : wpAny (model X.prog X.w) A (setAttr (.ref a) f u) Q E s := by
  obtain ⟨mA, O, r, wi, _, ho⟩ := ins_get I.hok e
  have hz : (fs.map (·.1)).length ≤ sizeLine := by rw [List.length_map, sizeLine_eq]; omega
  refine set_map I.kIn O c.sa c.po n.taker c.hd wi hz fun h' O' sb => h _ ?_
  have hd : ∃ o, h'.get? dx = some o := let ⟨o, _, _, e', _⟩ := O'.ns; ⟨o, e'⟩
  refine I.write (x := a) (e := dx) (by rw [e]; exact True.intro) (.inr ho) (fun b q hb z => (sb.2 b hb).trans z) hd ?_
  refine ⟨by rw [upd_ne O.ne]; exact ho, ?_, O.ne, O'.obj, _, O'.ns, fun g => ?_, fun g hg => ?_⟩
  · have := length_putF f y fs; omega
  · show RelO ((putF f y fs).lookup g) (if g = f then some u else mA g)
    rw [lookup_putF]
    by_cases q : g = f
    · rw [if_pos q, if_pos q]; exact ry
    · rw [if_neg q, if_neg q]; exact r g
  · by_cases q : g = f
    · rw [q]; exact (keys_putF f y fs).1
    · refine (keys_putF f y fs).2 g (wi g fun z => hg ?_)
      show (if g = f then some u else mA g) = none
      rw [if_neg q]; exact z

/-- a new instance, tracked, without attributes -/
theorem Inv.made (I : Inv X pins σ H s) : Inv X pins σ (upd (upd H s.heap.objs.size (.own (s.heap.objs.size + 1))) (s.heap.objs.size + 1) (.ins C s.heap.objs.size []))
    { s with heap := (s.heap.push PySem.W.emptyDict).push (PySem.W.instObj C s.heap.objs.size) } := by
  have e1 : (s.heap.push PySem.W.emptyDict).get? s.heap.objs.size = some PySem.W.emptyDict := Heap.get?_push_size s.heap rfl
  have e2 : ((s.heap.push PySem.W.emptyDict).push (PySem.W.instObj C s.heap.objs.size)).get? (s.heap.objs.size + 1) = some (PySem.W.instObj C s.heap.objs.size) := by
    have := Heap.get?_push_size (s.heap.push PySem.W.emptyDict) (o := PySem.W.instObj C s.heap.objs.size) rfl
    rwa [Heap.size_push] at this
  have e3 : (s.heap.push PySem.W.emptyDict).Ns s.heap.objs.size (fun _ => none) := ⟨PySem.W.emptyDict, #[], _, e1, rfl, (fun e he => absurd he (by simp)), fun _ => rfl⟩
  have I1 := I.laid (a := s.heap.objs.size) (o := .own (s.heap.objs.size + 1)) (h' := s.heap.push PySem.W.emptyDict) (t' := s.toks) (fun b u q => Heap.get?_push_of_some _ q) (Nat.le_refl _) ⟨_, e1⟩
  refine I1.laid (a := s.heap.objs.size + 1) (o := .ins C s.heap.objs.size []) (t' := s.toks) (fun b u q => Heap.get?_push_of_some _ q) (Nat.le_of_eq (Heap.size_push _ _)) ?_
  have ne : s.heap.objs.size ≠ s.heap.objs.size + 1 := Nat.ne_of_lt (Nat.lt_succ_self _)
  refine ⟨by rw [upd_ne ne, upd_same], Nat.zero_le _, ne, e2, fun _ => none, (Heap.Ns1.of_empty e3).at fun o q => Heap.get?_push_of_some _ q, fun _ => True.intro, fun y hy => absurd rfl hy⟩

/-- e.f where nothing but the object is asked: through attributeBase (super) and the last hold -/
theorem attr_of {prog : Program} {w : World} {env : Env} {e : Expr} {f : Str} {pos : Pos} {s : Shared} {Q : Value → Shared → Prop} (hb : attributeBase e f env (eval e env) = eval e env)
    (h : wpAny (model prog w) A (eval e env) (fun o s₁ => wpAny (model prog w) A (getAttr o f true) Q E s₁) E s) : wpAny (model prog w) A (eval (.Attribute e f pos) env) Q E s :=
  Attribute_any_ h (by rw [arm_eval_Attribute, hb])
end

/-! ### readings and rules -/
/-- e.f, an attribute of the instance -/
def tFld (K : PySem.W.Frag) (ta : TE) (f : Str) : TE := fun σ H Q => ta σ H fun x H1 => ∃ a C dx fs v, x = .ref a ∧ H1 a = some (.ins C dx fs) ∧ Cls K C ∧ NoAttr K C f ∧ fs.lookup f = some v ∧ Q v H1
/-- e.f, a constant of the class -/
def tCon (K : PySem.W.Frag) (ta : TE) (f : Str) : TE := fun σ H Q => ta σ H fun x H1 => ∃ a C dx fs v u, x = .ref a ∧ H1 a = some (.ins C dx fs) ∧ Cls K C ∧ Con K C f v u ∧ fs.lookup f = none ∧ Q v H1
/-- e.f = value -/
def sFld (K : PySem.W.Frag) (ta tv : TE) (f : Str) : TS := fun D σ H => tv σ H fun y H1 => ta σ H1 fun x H2 => ∃ a C dx fs, x = .ref a ∧ H2 a = some (.ins C dx fs) ∧ Cls K C ∧ NoAttr K C f ∧ fs.length < 1000 ∧
  D.nx σ (upd H2 a (.ins C dx (putF f y fs)))
/-- an augmented operator on two values -/
def InOp (X : Cx) (op : Operator) (rd : V → V → Hp → VK → Prop) : Prop :=
  ∀ (pins : List (Addr × Obj)) (s : Shared) (σ : St) (H : Hp) (x y : V) (u v : Value) (Q : VK), Inv X pins σ H s → RelV x u → RelV y v → rd x y H Q → wpAny (model X.prog X.w) X.A (inplaceOp op u v) (EP X pins σ Q) X.xe s
/-- e.f op= value -/
def sFldAug (K : PySem.W.Frag) (ta tv : TE) (rd : V → V → Hp → VK → Prop) (f : Str) : TS := fun D σ H => ta σ H fun x H1 => ∃ a C dx fs v, x = .ref a ∧ H1 a = some (.ins C dx fs) ∧ Cls K C ∧ NoAttr K C f ∧ fs.lookup f = some v ∧
  tv σ H1 fun y H2 => rd v y H2 fun z H3 => ∃ dx' fs', H3 a = some (.ins C dx' fs') ∧ fs'.length < 1000 ∧ D.nx σ (upd H3 a (.ins C dx' (putF f z fs')))

section
variable {X : Cx} {o e value : Expr} {f : Str} {pos pos' tpos : Pos} {ta tv : TE}
theorem pe_fld (he : PE X e ta) (hb : attributeBase e f X.env (eval e X.env) = eval e X.env) : PE X (.Attribute e f pos) (tFld X.K ta f) := by
  intro pins s σ H Q I h
  refine attr_of hb (thn (he pins s σ H _ I h) fun u s1 ⟨x, H1, I1, rx, a, C, dx, fs, v, ex, ea, c, n, l, q⟩ => ?_)
  subst ex
  obtain rfl : u = Value.ref a := rx
  exact getattr_ok I1 ea c n l fun u' s2 I2 ru => ⟨v, H1, I2, ru, q⟩
theorem pe_con (he : PE X e ta) (hb : attributeBase e f X.env (eval e X.env) = eval e X.env) : PE X (.Attribute e f pos) (tCon X.K ta f) := by
  intro pins s σ H Q I h
  refine attr_of hb (thn (he pins s σ H _ I h) fun u s1 ⟨x, H1, I1, rx, a, C, dx, fs, v, u0, ex, ea, c, k, l, q⟩ => ?_)
  subst ex
  obtain rfl : u = Value.ref a := rx
  exact getcon_ok I1 ea c k l fun s2 I2 => ⟨v, H1, I2, k.rel, q⟩
theorem ps_fld (ha : PE X o ta) (hv : PE X value tv) (hs : swapsWith value (some (.Attribute o f pos')) pos.line X.env = pure false) : PS X (.Assign [.Attribute o f pos'] value pos) (sFld X.K ta tv f) := by
  intro pins s σ H D I h
  refine plainObj_wpAny_Assign_Attribute (thn (hv pins s σ H _ I h) fun u s1 ⟨y, H1, I1, ry, q⟩ => thn (ha pins s1 σ H1 _ I1 q) fun ov s2 ⟨x, H2, I2, rx, a, C, dx, fs, ex, ea, c, n, l, q2⟩ => ?_) hs
  subst ex
  obtain rfl : ov = Value.ref a := rx
  exact setattr_ok I2 ea c n l ry fun s3 I3 => ⟨σ, _, I3, q2⟩
theorem ps_fldaug {op : Operator} {rd : V → V → Hp → VK → Prop} (ha : PE X o ta) (hv : PE X value tv) (hop : InOp X op rd) : PS X (.AugAssign (.Attribute o f tpos) op value pos) (sFldAug X.K ta tv rd f) := by
  intro pins s σ H D I h
  refine wpAny_AugAssign_AttributeAny (thn (ha pins s σ H _ I h) fun ov s1 ⟨x, H1, I1, rx, a, C, dx, fs, v, ex, ea, c, n, l, q⟩ => ?_)
  subst ex
  obtain rfl : ov = Value.ref a := rx
  refine getattr_ok I1 ea c n l fun u s2 I2 ru => thn (hv pins s2 σ H1 _ I2 q) fun w3 s3 ⟨y, H2, I3, ry, q3⟩ => thn (hop pins s3 σ H2 v y u w3 _ I3 ru ry q3) fun w4 s4 ⟨z, H3, I4, rz, dx', fs', ea', l', q4⟩ => ?_
  exact setattr_ok I4 ea' c n l' rz fun s5 I5 => ⟨σ, _, I5, q4⟩
def rAdd : V → V → Hp → VK → Prop := fun x y H Q => ∃ i j, x = .int i ∧ y = .int j ∧ Q (.int (i + j)) H
def rSub : V → V → Hp → VK → Prop := fun x y H Q => ∃ i j, x = .int i ∧ y = .int j ∧ Q (.int (i - j)) H
theorem in_add : InOp X .Add rAdd := by
  rintro pins s σ H x y u v Q I rx ry ⟨i, j, rfl, rfl, q⟩
  obtain ⟨t, rfl⟩ := (show ∃ t, u = Value.int i t from rx)
  obtain ⟨t', rfl⟩ := (show ∃ t', v = Value.int j t' from ry)
  exact PyProof.Rows.iadd_int ⟨.int (i + j), H, I.tok _, ⟨_, rfl⟩, q⟩
theorem in_sub : InOp X .Sub rSub := by
  rintro pins s σ H x y u v Q I rx ry ⟨i, j, rfl, rfl, q⟩
  obtain ⟨t, rfl⟩ := (show ∃ t, u = Value.int i t from rx)
  obtain ⟨t', rfl⟩ := (show ∃ t', v = Value.int j t' from ry)
  exact PyProof.Rows.isub_int ⟨.int (i - j), H, I.tok _, ⟨_, rfl⟩, q⟩

/-- what is between an instance and its method: the tree of a method call -/
theorem methcall_of {pl : Sem Bool} {m : Str} {apos : Pos} {args : List Expr} {pins : List (Addr × Obj)} {s : Shared} {σ : St} {H : Hp} {Q : Value → Shared → Prop} {te : TE} (he : PE X e te) (I : Inv X pins σ H s)
    (h : te σ H fun x H1 => ∃ a C dx fs g, x = .ref a ∧ H1 a = some (.ins C dx fs) ∧ Cls X.K C ∧ Meth X.K C m g ∧ fs.lookup m = none ∧
      ∀ s1, Inv X pins σ H1 s1 → wpAny (model X.prog X.w) X.A (callWith pos (.ref g) [.ref a] (backTo pos (starEach args X.env)) (backToKw pos (keywordEach [] X.env))) Q X.xe s1)
    (ht : eval (.Call (.Attribute e m apos) args [] pos) X.env = (do
      let ov ← eval e X.env
      standAt apos.atName
      let (f, first) ← holding [ov] (getMethod ov m pl)
      callWith pos f first (backTo pos (starEach args X.env)) (backToKw pos (keywordEach [] X.env)))) :
    wpAny (model X.prog X.w) X.A (eval (.Call (.Attribute e m apos) args [] pos) X.env) Q X.xe s := by
  refine PySem.W.methodCall_KW (pl := pl) (thn (he pins s σ H _ I h) fun u s1 ⟨x, H1, I1, rx, a, C, dx, fs, g, ex, ea, c, k, l, q⟩ => ?_) ht
  subst ex
  obtain rfl : u = Value.ref a := rx
  exact getmeth_ok I1 ea c k l (q s1 I1)
end

/-! ### isinstance -/
section
variable {X : Cx} {pins : List (Addr × Obj)} {σ : St} {H : Hp} {s : Shared} {A : Around} {E : Value → Shared → Prop} {Q : Value → Shared → Prop} {c : Value} {b : Bool}
/-- the type of a value, as the fragment's deciders take it; for an instance its class -/
inductive TyOf (K : PySem.W.Frag) (H : Hp) : V → Value → Prop where
  | non : TyOf K H .non (.type "NoneType")
  | bl (x : Bool) : TyOf K H (.bl x) (.type "bool")
  | int (i : Int) : TyOf K H (.int i) (.type "int")
  | str (x : Str) : TyOf K H (.str x) (.type "str")
  | flt (x : UInt64) : TyOf K H (.flt x) (.type "float")
  | lst {a : Addr} {xs : List V} (e : H a = some (.lst xs)) : TyOf K H (.ref a) (.type "list")
  | frz {a : Addr} {o : Obj} {xs : List V} (e : H a = some (.frz o (.lst xs))) : TyOf K H (.ref a) (.type "list")
  | tup {a : Addr} {xs : List V} (e : H a = some (.tup xs)) : TyOf K H (.ref a) (.type "tuple")
  | dK {a : Addr} {kvs : List (Key × V)} (e : H a = some (.dK kvs)) : TyOf K H (.ref a) (.type "dict")
  | dT {a : Addr} {kvs : List (List Key × V)} (e : H a = some (.dT kvs)) : TyOf K H (.ref a) (.type "dict")
  | ins {a C dx : Addr} {fs : List (Str × V)} (e : H a = some (.ins C dx fs)) (cl : Cls K C) (ha : PySem.W.findIn K (.ref C) "__class__" = some (some (.builtin "object.__class__")))
      (hn : PySem.W.specialIn K (.builtin "object.__class__") "__get__" = some (some (.builtin "getset_descriptor.__get__"))) (htk : PySem.W.takesIn K (.builtin "object.__class__") = some true)
      (hm : PySem.W.mroIn K C (.type "object") = some true) : TyOf K H (.ref a) (.ref C)
/-- isinstance(x, c) for one class c, a built-in or an own one: kitOne's answer -/
theorem isinst_ok {x : V} {u t : Value} (I : Inv X pins σ H s) (rx : RelV x u) (ty : TyOf X.K H x t) (e : PySem.W.kitOne X.K t c = some b) (h : ∀ tk, Q (.bool b) { s with toks := tk }) :
    wpAny (model X.prog X.w) A (call (.builtin "isinstance") [u, c]) Q E s := by
  cases ty with
  | non => cases (show u = Value.none from rx); exact PySem.W.kia_one PySem.W.kitx_none I.kIn True.intro e (fun z => nomatch z) h
  | bl y => cases (show u = Value.bool y from rx); exact PySem.W.kia_one PySem.W.kitx_bool I.kIn True.intro e (fun z => nomatch z) h
  | int i => obtain ⟨t, q⟩ := (show ∃ t, u = Value.int i t from rx); cases q; exact PySem.W.kia_one PySem.W.kitx_int I.kIn True.intro e (fun z => nomatch z) h
  | str y => obtain ⟨t, q⟩ := (show ∃ t, u = Value.str y t from rx); cases q; exact PySem.W.kia_one PySem.W.kitx_str I.kIn True.intro e (fun z => nomatch z) h
  | flt y => obtain ⟨t, q⟩ := (show ∃ t, u = Value.float y t from rx); cases q; exact PySem.W.kia_one PySem.W.kitx_float I.kIn True.intro e (fun z => nomatch z) h
  | @lst a xs ea =>
    cases (show u = Value.ref a from rx)
    obtain ⟨_, _, n, _, h1⟩ := (show ObjOk X.prog X.w H s.heap a (.lst xs) from I.hok a _ ea)
    exact PySem.W.kia_one PySem.W.kitx_list I.kIn ⟨_, h1, rfl⟩ e (fun z => nomatch z) h
  | @frz a ob xs ea =>
    cases (show u = Value.ref a from rx)
    obtain ⟨_, _, _, n, _, h1⟩ := (show ObjOk X.prog X.w H s.heap a (.frz ob (.lst xs)) from I.hok a _ ea)
    exact PySem.W.kia_one PySem.W.kitx_list I.kIn ⟨_, h1, rfl⟩ e (fun z => nomatch z) h
  | @tup a xs ea =>
    cases (show u = Value.ref a from rx)
    obtain ⟨_, _, _, p⟩ := (show ObjOk X.prog X.w H s.heap a (.tup xs) from I.hok a _ ea)
    obtain ⟨o, h1, h2, _⟩ := p
    exact PySem.W.kia_one PySem.W.kitx_tuple I.kIn ⟨o, h1, h2⟩ e (fun z => nomatch z) h
  | @dK a kvs ea =>
    cases (show u = Value.ref a from rx)
    obtain ⟨_, _, vs, _, p⟩ := (show ObjOk X.prog X.w H s.heap a (.dK kvs) from I.hok a _ ea)
    obtain ⟨o, es, ep, h1, h2, _⟩ := p
    exact PySem.W.kia_one PySem.W.kitx_dict I.kIn ⟨o, h1, h2.1⟩ e (fun z => nomatch z) h
  | @dT a kvs ea =>
    cases (show u = Value.ref a from rx)
    obtain ⟨_, _, xs, _, o, es, ep, h1, h2, _⟩ := (show ObjOk X.prog X.w H s.heap a (.dT kvs) from I.hok a _ ea)
    exact PySem.W.kia_one PySem.W.kitx_dict I.kIn ⟨o, h1, h2.1⟩ e (fun z => nomatch z) h
  | @ins a C dx fs ea cl ha hn htk hm =>
    cases (show u = Value.ref a from rx)
    obtain ⟨mA, O, _⟩ := ins_get I.hok ea
    obtain ⟨od, J, _⟩ := O.look
    exact PySem.W.kia_one (PySem.W.kitx_own (cl.get _) cl.hd ha hn htk hm) I.kIn J e (fun z => nomatch z) h
end
end L2

namespace L2
open PySem PySem.Spec PyProof.Rows

/-! ### room -/
structure Room (k : Nat) (A : Around) : Prop where
  hd : A.handled = none
  dp : A.depth + 3 * k + 5 < recursionLimit
  un : A.units + 16 * k + 200 < cLine
theorem Room.mono {j k : Nat} {A : Around} (r : Room k A) (h : j ≤ k) : Room j A := ⟨r.hd, by have := r.dp; omega, by have := r.un; omega⟩
theorem Room.deeper {k : Nat} {A : Around} (r : Room (k + 1) A) (env : Env) : Room k (A.deeper env) :=
  ⟨r.hd, by have := r.dp; show A.depth + 1 + 3 * k + 5 < _; omega, by have := r.un; show A.units + 3 + 16 * k + 200 < _; omega⟩
theorem Room.in1 {k : Nat} {A : Around} (r : Room (k + 1) A) : Room k A.in1 :=
  ⟨r.hd, by have := r.dp; show A.depth + 3 * k + 5 < _; omega, by have := r.un; show A.units + 1 + 16 * k + 200 < _; omega⟩
theorem make_depth {A : Around} {C : Addr} {us : List Value} {kw : List (Str × Value)} : (A.under (.builtin "type.__call__" ⟨.ref C :: us, kw⟩)).depth = A.depth + 1 := by
  first | rfl | simp [Around.under, Code.weight, Code.isCreation, Code.isGuard, Code.isCaller, Code.frames, Code.isFrame, guardIds]
theorem make_units {A : Around} {C : Addr} {us : List Value} {kw : List (Str × Value)} : (A.under (.builtin "type.__call__" ⟨.ref C :: us, kw⟩)).units = A.units + 1 := by
  first | rfl | simp [Around.under, Code.cUnits, Code.frames, Code.isFrame]
theorem Room.make {k : Nat} {A : Around} (r : Room (k + 1) A) (C : Addr) (us : List Value) (kw : List (Str × Value)) : Room k (A.under (.builtin "type.__call__" ⟨.ref C :: us, kw⟩)) :=
  ⟨r.hd, by have := r.dp; rw [make_depth]; omega, by have := r.un; rw [make_units]; omega⟩
theorem Room.depth {k : Nat} {A : Around} (r : Room k A) : A.depth < recursionLimit := by have := r.dp; omega
theorem Room.units {k : Nat} {A : Around} (r : Room k A) : A.units + 64 < cLine := by have := r.un; omega
theorem Room.units0 {k : Nat} {A : Around} (r : Room k A) : A.units < cLine := by have := r.un; omega

/-! ### argument lists and displays -/
def tNil : TA := fun _ H Q => Q [] H
def tCons (ta : TE) (tr : TA) : TA := fun σ H Q => ta σ H fun x H1 => tr σ H1 fun xs H2 => Q (x :: xs) H2
section
variable {X : Cx} {e : Expr} {es : List Expr} {te : TE} {t : TA} {pos : Pos}
theorem pa_nil : PA X [] tNil := fun _ _ _ _ H Q I h => Calls.spliced_nil ⟨[], H, I, .nil, h⟩
theorem pa_cons (ha : PE X e te) (hr : PA X es t) (hs : starEach (e :: es) X.env = (false, eval e X.env) :: starEach es X.env := by rfl) : PA X (e :: es) (tCons te t) := by
  intro pos pins s σ H Q I h
  rw [hs]
  show wpAny _ _ (spliced ((false, eval e X.env) :: backTo pos (starEach es X.env))) _ _ s
  refine Calls.spliced_cons (thn (ha pins s σ H _ I h) fun u s1 ⟨x, H1, I1, r1, q1⟩ => ?_)
  exact thn (hr pos pins s1 σ H1 _ I1 q1) fun us s2 ⟨xs, H2, I2, r2, q2⟩ => ⟨x :: xs, H2, I2, .cons r1 r2, q2⟩

/-- a tuple, a list of written items -/
def tTup (t : TA) : TE := fun σ H Q => t σ H fun xs H1 => xs.length ≤ sizeLine ∧ ∀ p, H1 p = none → Q (.ref p) (upd H1 p (.tup xs))
def tLst (t : TA) : TE := fun σ H Q => t σ H fun xs H1 => xs.length ≤ sizeLine ∧ ∀ p, H1 p = none → Q (.ref p) (upd H1 p (.lst xs))
theorem pe_tup {x1} (h : PA X es t) : PE X (.Tuple es x1 pos) (tTup t) := by
  intro pins s σ H Q I hq
  refine wpAny_Tuple_spliced (thn (h pos pins s σ H _ I hq) fun us s1 ⟨xs, H1, I1, r, z, q⟩ => ⟨by rw [← r.length]; exact z, ?_⟩)
  have hf : H1 s1.heap.objs.size = none := I1.hok.fresh (Nat.le_refl _)
  refine ⟨.ref s1.heap.objs.size, upd H1 s1.heap.objs.size (.tup xs), I1.laid (t' := s1.toks) (fun b u e => Heap.get?_push_of_some _ e) (Nat.le_refl _) ?_, rfl, q _ hf⟩
  exact ⟨z, us, r, ⟨_, Heap.get?_push_size _ rfl, rfl, _, rfl⟩⟩
theorem pe_lst (h : PA X es t) : PE X (.List es pos) (tLst t) := by
  intro pins s σ H Q I hq
  refine wpAny_List_spliced (thn (h pos pins s σ H _ I hq) fun us s1 ⟨xs, H1, I1, r, z, q⟩ => ⟨by rw [← r.length]; exact z, ?_⟩)
  have hf : H1 s1.heap.objs.size = none := I1.hok.fresh (Nat.le_refl _)
  refine ⟨.ref s1.heap.objs.size, upd H1 s1.heap.objs.size (.lst xs), I1.laid (t' := s1.toks) (fun b u e => Heap.get?_push_of_some _ e) (Nat.le_refl _) ?_, rfl, q _ hf⟩
  exact ⟨z, us, 0, r, Heap.get?_push_size _ rfl⟩
end

/-! ### what a def promises -/
/-- a def's promise: the bound arguments in the parameters' order, the heap, the wanted end, the wanted exception -/
abbrev Sp := List V → Hp → VK → XK → Prop
/-- how an exception lies behind a call (file 08 gives it): the callers' frames, abstract heap and state ahead of the call, the wish, the exception, the state -/
abbrev CXT := List Env → Hp → Shared → XK → Value → Shared → Prop

/-- the state at a call -/
structure Env0 (P : Program) (w : World) (K : PySem.W.Frag) (mg : Str → Option Value) (base : Heap) (A : Around) (outer : List Env) (s : Shared) (H : Hp) : Prop where
  frames : A.frames = some outer
  mod : Mod K mg base
  bs : ∀ b o, base.get? b = some o → s.heap.get? b = some o ∧ H b = none
  bsz : base.objs.size ≤ s.heap.objs.size
  funs : s.heap.FunFrames base outer
  frf : ∀ b ∈ frs outer, H b = none
  hok : HOk P w H s.heap
  bare : AllBare s.gens
/-- a call's end -/
def CE (outer : List Env) (P : Program) (w : World) (H : Hp) (s : Shared) (Q : VK) (u : Value) (s' : Shared) : Prop :=
  ∃ v H', s'.os = s.os ∧ AllBare s'.gens ∧ Un (frs outer) [] H H' s.heap s'.heap ∧ HOk P w H' s'.heap ∧ RelV v u ∧ Q v H'
def CR (CX : CXT) (outer : List Env) (P : Program) (w : World) (H : Hp) (s : Shared) (Q : VK) (E : XK) (r : Result) (s' : Shared) : Prop :=
  match r with
  | .ok (.ret u) => CE outer P w H s Q u s'
  | .ok _ => False
  | .error e => CX outer H s E e s'
structure FnOk (P : Program) (w : World) (K : PySem.W.Frag) (mg : Str → Option Value) (base : Heap) (CX : CXT) (k : Nat) (f : Addr) (fd : FuncData) (ps : List Str) (sp : Sp) : Prop where
  len : ∀ vs H Q E, sp vs H Q E → vs.length = ps.length
  run : ∀ (A : Around) (outer : List Env) (s : Shared) (H : Hp) (args : Args) (us : List Value) (vs : List V) (Q : VK) (E : XK), Room k A → Env0 P w K mg base A outer s H → BindsTo s fd args (ps.zip us) → Vals vs us → sp vs H Q E →
    codeAny (model P w) A (.call (.ref f) args) (CR CX outer P w H s Q E) s
theorem FnOk.mono {P : Program} {w : World} {K : PySem.W.Frag} {mg : Str → Option Value} {base : Heap} {CX : CXT} {j k : Nat} {f : Addr} {fd : FuncData} {ps : List Str} {sp : Sp} (F : FnOk P w K mg base CX j f fd ps sp) (h : j ≤ k) :
    FnOk P w K mg base CX k f fd ps sp := ⟨F.len, fun A outer s H args us vs Q E hr => F.run A outer s H args us vs Q E (hr.mono h)⟩
/-- a weaker promise -/
theorem FnOk.imp {P : Program} {w : World} {K : PySem.W.Frag} {mg : Str → Option Value} {base : Heap} {CX : CXT} {k : Nat} {f : Addr} {fd : FuncData} {ps : List Str} {sp sp' : Sp} (F : FnOk P w K mg base CX k f fd ps sp)
    (h : ∀ vs H Q E, sp' vs H Q E → sp vs H Q E) : FnOk P w K mg base CX k f fd ps sp' :=
  ⟨fun vs H Q E q => F.len vs H Q E (h _ _ _ _ q), fun A outer s H args us vs Q E hr he hb hv hs => F.run A outer s H args us vs Q E hr he hb hv (h _ _ _ _ hs)⟩

theorem Env0.make {P : Program} {w : World} {K : PySem.W.Frag} {mg : Str → Option Value} {base : Heap} {A : Around} {outer : List Env} {s : Shared} {H : Hp} (e : Env0 P w K mg base A outer s H) (C : Addr) (us : List Value) (kw : List (Str × Value)) :
    Env0 P w K mg base (A.under (.builtin "type.__call__" ⟨.ref C :: us, kw⟩)) outer s H := ⟨by first | exact e.frames | (simpa [Around.under, Code.envs, Code.isFrame, pushEnvs] using e.frames), e.mod, e.bs, e.bsz, e.funs, e.frf, e.hok, e.bare⟩
theorem Env0.in1 {P : Program} {w : World} {K : PySem.W.Frag} {mg : Str → Option Value} {base : Heap} {A : Around} {outer : List Env} {s : Shared} {H : Hp} (e : Env0 P w K mg base A outer s H) :
    Env0 P w K mg base A.in1 outer s H := ⟨e.frames, e.mod, e.bs, e.bsz, e.funs, e.frf, e.hok, e.bare⟩

section
variable {X : Cx} {pins : List (Addr × Obj)} {σ : St} {H : Hp} {s s' : Shared}
/-- from a body: what a callee wants -/
theorem Inv.env0 (I : Inv X pins σ H s) : Env0 X.prog X.w X.K X.mg X.base X.A X.stack s H :=
  ⟨I.ok.frames, I.ok.mod, I.bs, Nat.le_trans I.ok.bsz I.sz, I.stack, I.stkFree, I.hok, I.bare⟩
/-- behind a call -/
theorem Inv.after {Q : VK} {u : Value} (I : Inv X pins σ H s) (h : CE X.stack X.prog X.w H s Q u s') : EP X pins σ Q u s' := by
  obtain ⟨v, H', os, bare, un, hok, r, q⟩ := h
  obtain ⟨hh, g, d, t, os'⟩ := s'
  obtain rfl : os' = s.os := os
  exact ⟨v, H', I.call (h' := hh) (g' := g) (d' := d) (t' := t) (ch := []) un hok bare (fun b z => absurd z (by simp)), r, q⟩
end

/-! ### calls -/
/-- f(..): the written arguments, then the defaults dvs; E: what is wanted of an exception -/
def tCall (sp : Sp) (dvs : List V) (E : XK) (t : TA) : TE := fun σ H Q => t σ H fun vs H1 => sp (vs ++ dvs) H1 Q E
/-- o.m(..) of an instance of the class at C -/
def tMeth (C : Addr) (m : Str) (sp : Sp) (dvs : List V) (E : XK) (ta : TE) (t : TA) : TE := fun σ H Q => ta σ H fun x H1 => ∃ a dx fs, x = .ref a ∧ H1 a = some (.ins C dx fs) ∧ fs.lookup m = none ∧
  t σ H1 fun vs H2 => sp (x :: (vs ++ dvs)) H2 Q E
/-- C(..): a new instance and its dict, then __init__ -/
def tMake (C : Addr) (sp : Sp) (dvs : List V) (E : XK) (t : TA) : TE := fun σ H Q => t σ H fun vs H1 => ∀ x dx, H1 x = none → H1 dx = none → dx ≠ x →
  sp (.ref x :: (vs ++ dvs)) (upd (upd H1 dx (.own x)) x (.ins C dx [])) (fun v H2 => v = .non ∧ Q (.ref x) H2) E

/-- how the parameters are bound: us the positional arguments, kw the keywords' values by name, ds the defaults that fill up -/
def Binds (K : PySem.W.Frag) (fd : FuncData) (ps : List Str) (ds : List Value) : Prop :=
  ∀ (s : Shared) (us : List Value), K.In s.heap → (us ++ ds).length = ps.length → BindsTo s fd ⟨us, []⟩ (ps.zip (us ++ ds))
/-- every parameter is given -/
theorem Binds.all {K : PySem.W.Frag} {fd : FuncData} {ps : List Str} (h : ∀ us : List Value, us.length = ps.length → bindArgs fd ⟨us, []⟩ = pure (ps.zip us)) : Binds K fd ps [] := fun s us _ hl => by
  rw [List.append_nil] at hl ⊢
  exact .of_eq (h us hl)

/-- an exception of a callee reaches what this body wants of exceptions -/
def Passes (CX : CXT) (X : Cx) (E : XK) : Prop := ∀ (pins : List (Addr × Obj)) (σ : St) (H : Hp) (s : Shared) (e : Value) (s' : Shared), Inv X pins σ H s → CX X.stack H s E e s' → X.xe e s'

section
variable {X : Cx} {CX : CXT} {k : Nat} {f C : Addr} {fd : FuncData} {ps : List Str} {sp : Sp} {dvs : List V} {ds : List Value} {E : XK} {x m : Str} {p pos apos : Pos} {e o : Expr} {es : List Expr} {ta : TE} {t : TA}

/-- the callee runs -/
theorem run_fn {pins : List (Addr × Obj)} {σ : St} {H : Hp} {s : Shared} {Q : VK} {us : List Value} {vs : List V} (F : FnOk X.prog X.w X.K X.mg X.base CX k f fd ps sp) (hr : Room k X.A) (hb : Binds X.K fd ps ds) (hd : Vals dvs ds) (hx : Passes CX X E)
    (I : Inv X pins σ H s) (r : Vals vs us) (h : sp (vs ++ dvs) H Q E) : wpAny (model X.prog X.w) X.A (call (.ref f) us) (EP X pins σ Q) X.xe s := by
  have r2 : Vals (vs ++ dvs) (us ++ ds) := r.append hd
  have hl : (us ++ ds).length = ps.length := by rw [← r2.length]; exact F.len _ _ _ _ h
  refine wpAny_call (codeAny_mono (F.run X.A X.stack s H ⟨us, []⟩ (us ++ ds) (vs ++ dvs) Q E hr I.env0 (hb s us I.kIn hl) r2 h) fun r s' hq => ?_)
  cases r with
  | error e => exact hx pins σ H s e s' I hq
  | ok fl =>
    cases fl with
    | ret u => exact I.after hq
    | next => exact False.elim hq
    | brk => exact False.elim hq
    | cont => exact False.elim hq

theorem pe_call (F : FnOk X.prog X.w X.K X.mg X.base CX k f fd ps sp) (hr : Room k X.A) (hg : Gl X x) (hm : X.mg x = some (.ref f)) (hk : PySem.W.keepIn X.K (.ref f) = true) (hb : Binds X.K fd ps ds) (hd : Vals dvs ds) (hx : Passes CX X E)
    (ha : PA X (e :: es) t) (hdb : (x == ("__debug__" : Str)) = false := by decide) (he : starEach (e :: es) X.env = (false, eval e X.env) :: starEach es X.env := by rfl) (hpl : (backTo pos (starEach es X.env)).any (·.1) = false := by rfl) :
    PE X (.Call (.Name x p) (e :: es) [] pos) (tCall sp dvs E t) := by
  intro pins s σ H Q I h
  refine wpAny_Call_Name_kw (ld_glob I hg hm ?_ hdb)
  refine PySem.W.callWith_K (h₀ := X.base) I.ok.mod.kin hk (thn (ha pos pins s σ H _ I h) fun us s1 ⟨vs, H1, I1, r, q⟩ => ⟨I1.kIn, ?_⟩) he hpl
  exact run_fn F hr hb hd hx I1 r q
theorem pe_call0 (F : FnOk X.prog X.w X.K X.mg X.base CX k f fd ps sp) (hr : Room k X.A) (hg : Gl X x) (hm : X.mg x = some (.ref f)) (hk : PySem.W.keepIn X.K (.ref f) = true) (hb : Binds X.K fd ps ds) (hd : Vals dvs ds) (hx : Passes CX X E)
    (hdb : (x == ("__debug__" : Str)) = false := by decide) : PE X (.Call (.Name x p) [] [] pos) (tCall sp dvs E tNil) := by
  intro pins s σ H Q I h
  refine wpAny_Call_Name_kw (ld_glob I hg hm ?_ hdb)
  exact PySem.W.callWith_K0 I.kIn hk (run_fn (us := []) F hr hb hd hx I .nil h)

/-- o.m(e, ..) -/
theorem pe_meth {pl : Sem Bool} (he : PE X o ta) (c : Cls X.K C) (hm : Meth X.K C m f) (F : FnOk X.prog X.w X.K X.mg X.base CX k f fd ps sp) (hr : Room k X.A) (hb : Binds X.K fd ps ds) (hd : Vals dvs ds) (hx : Passes CX X E) (ha : PA X (e :: es) t)
    (hst : starEach (e :: es) X.env = (false, eval e X.env) :: starEach es X.env := by rfl) (hpl : (backTo pos (starEach es X.env)).any (·.1) = false := by rfl)
    (ht : eval (.Call (.Attribute o m apos) (e :: es) [] pos) X.env = (do
      let ov ← eval o X.env
      standAt apos.atName
      let (f, first) ← holding [ov] (getMethod ov m pl)
      callWith pos f first (backTo pos (starEach (e :: es) X.env)) (backToKw pos (keywordEach [] X.env))) := by rfl) :
    PE X (.Call (.Attribute o m apos) (e :: es) [] pos) (tMeth C m sp dvs E ta t) := by
  intro pins s σ H Q I h
  refine PySem.W.methodCall_KW (pl := pl) (thn (he pins s σ H _ I h) fun u s1 ⟨x, H1, I1, rx, a, dx, fs, ex, ea, l, q⟩ => ?_) ht
  subst ex
  obtain rfl : u = Value.ref a := rx
  refine getmeth_ok I1 ea c hm l ?_
  refine PySem.W.callWith_K (first := [.ref a]) (h₀ := X.base) I.ok.mod.kin hm.kp (thn (ha pos pins s1 σ H1 _ I1 q) fun us s2 ⟨vs, H2, I2, r, q2⟩ => ⟨I2.kIn, ?_⟩) hst hpl
  exact run_fn (us := .ref a :: us) (vs := .ref a :: vs) F hr hb hd hx I2 (.cons rfl r) q2
/-- o.m() -/
theorem pe_meth0 {pl : Sem Bool} (he : PE X o ta) (c : Cls X.K C) (hm : Meth X.K C m f) (F : FnOk X.prog X.w X.K X.mg X.base CX k f fd ps sp) (hr : Room k X.A) (hb : Binds X.K fd ps ds) (hd : Vals dvs ds) (hx : Passes CX X E)
    (ht : eval (.Call (.Attribute o m apos) [] [] pos) X.env = (do
      let ov ← eval o X.env
      standAt apos.atName
      let (f, first) ← holding [ov] (getMethod ov m pl)
      callWith pos f first (backTo pos (starEach [] X.env)) (backToKw pos (keywordEach [] X.env))) := by rfl) :
    PE X (.Call (.Attribute o m apos) [] [] pos) (tMeth C m sp dvs E ta tNil) := by
  intro pins s σ H Q I h
  refine PySem.W.methodCall_KW (pl := pl) (thn (he pins s σ H _ I h) fun u s1 ⟨x, H1, I1, rx, a, dx, fs, ex, ea, l, q⟩ => ?_) ht
  subst ex
  obtain rfl : u = Value.ref a := rx
  refine getmeth_ok I1 ea c hm l ?_
  exact PySem.W.callWith_K0 (first := [.ref a]) I1.kIn hm.kp (run_fn (us := [.ref a]) (vs := [.ref a]) F hr hb hd hx I1 (.cons rfl .nil) q)

/-- what a class must have to be made -/
structure Mk (K : PySem.W.Frag) (C f : Addr) : Prop where
  makes : PySem.W.makesIn K C = true
  init : PySem.W.findIn K (.ref C) "__init__" = some (some (.ref f))
  fn : PySem.W.isFn K (.ref f) = true
  kp : PySem.W.keepIn K (.ref C) = true

theorem run_make {pins : List (Addr × Obj)} {σ : St} {H : Hp} {s : Shared} {Q : VK} {us : List Value} {vs : List V} (M : Mk X.K C f) (F : FnOk X.prog X.w X.K X.mg X.base CX k f fd ps sp) (hr : Room (k + 1) X.A) (hb : Binds X.K fd ps ds) (hd : Vals dvs ds)
    (hx : Passes CX X E) (I : Inv X pins σ H s) (r : Vals vs us)
    (h : ∀ x dx, H x = none → H dx = none → dx ≠ x → sp (.ref x :: (vs ++ dvs)) (upd (upd H dx (.own x)) x (.ins C dx [])) (fun v H2 => v = .non ∧ Q (.ref x) H2) E) :
    wpAny (model X.prog X.w) X.A (call (.ref C) us) (EP X pins σ Q) X.xe s := by
  have hq := h (s.heap.objs.size + 1) s.heap.objs.size (I.hok.fresh (Nat.le_succ _)) (I.hok.fresh (Nat.le_refl _)) (Nat.ne_of_lt (Nat.lt_succ_self _))
  have I2 := Inv.made (C := C) I
  have r2 : Vals (V.ref (s.heap.objs.size + 1) :: (vs ++ dvs)) (Value.ref (s.heap.objs.size + 1) :: (us ++ ds)) := .cons rfl (r.append hd)
  have hl : (Value.ref (s.heap.objs.size + 1) :: us ++ ds).length = ps.length := by
    have e := r2.length
    rw [F.len _ _ _ _ hq] at e
    exact e.symm
  refine wpAny_call (make_map (f := f) I.kIn M.makes M.init (beq_iff_eq.mp M.fn) (codeAny_mono (F.run _ X.stack _ _ ⟨Value.ref (s.heap.objs.size + 1) :: us, []⟩ (Value.ref (s.heap.objs.size + 1) :: (us ++ ds)) _ _ E (hr.make C us [])
    (I2.env0.make C us []) (hb _ (Value.ref (s.heap.objs.size + 1) :: us) I2.kIn hl) r2 hq) fun r s' hq' => ?_))
  cases r with
  | error e => exact hx pins σ _ _ e s' I2 hq'
  | ok fl =>
    cases fl with
    | ret u =>
      obtain ⟨v, H', I3, rv, ev, q3⟩ := I2.after hq'
      subst ev
      exact ⟨rv, ⟨V.ref (s.heap.objs.size + 1), H', I3, rfl, q3⟩⟩
    | next => exact False.elim hq'
    | brk => exact False.elim hq'
    | cont => exact False.elim hq'
theorem pe_make (M : Mk X.K C f) (F : FnOk X.prog X.w X.K X.mg X.base CX k f fd ps sp) (hr : Room (k + 1) X.A) (hg : Gl X x) (hm : X.mg x = some (.ref C)) (hb : Binds X.K fd ps ds) (hd : Vals dvs ds) (hx : Passes CX X E)
    (ha : PA X (e :: es) t) (hdb : (x == ("__debug__" : Str)) = false := by decide) (he : starEach (e :: es) X.env = (false, eval e X.env) :: starEach es X.env := by rfl) (hpl : (backTo pos (starEach es X.env)).any (·.1) = false := by rfl) :
    PE X (.Call (.Name x p) (e :: es) [] pos) (tMake C sp dvs E t) := by
  intro pins s σ H Q I h
  refine wpAny_Call_Name_kw (ld_glob I hg hm ?_ hdb)
  refine PySem.W.callWith_K (h₀ := X.base) I.ok.mod.kin M.kp (thn (ha pos pins s σ H _ I h) fun us s1 ⟨vs, H1, I1, r, q⟩ => ⟨I1.kIn, ?_⟩) he hpl
  exact run_make M F hr hb hd hx I1 r q
theorem pe_make0 (M : Mk X.K C f) (F : FnOk X.prog X.w X.K X.mg X.base CX k f fd ps sp) (hr : Room (k + 1) X.A) (hg : Gl X x) (hm : X.mg x = some (.ref C)) (hb : Binds X.K fd ps ds) (hd : Vals dvs ds) (hx : Passes CX X E)
    (hdb : (x == ("__debug__" : Str)) = false := by decide) : PE X (.Call (.Name x p) [] [] pos) (tMake C sp dvs E tNil) := by
  intro pins s σ H Q I h
  refine wpAny_Call_Name_kw (ld_glob I hg hm ?_ hdb)
  exact PySem.W.callWith_K0 I.kIn M.kp (run_make (us := []) M F hr hb hd hx I .nil h)
end

/-! ### keywords -/
/-- the values of the keywords, from the left -/
def PK (X : Cx) (kws : List Keyword) (t : TA) : Prop :=
  ∀ (pos : Pos) (pins : List (Addr × Obj)) (s : Shared) (σ : St) (H : Hp) (Q : List V → Hp → Prop), Inv X pins σ H s → t σ H Q → wpAny (model X.prog X.w) X.A (evalAll ((backToKw pos (keywordEach kws X.env)).map (·.2))) (AP X pins σ Q) X.xe s
section
variable {X : Cx} {CX : CXT} {k : Nat} {f C : Addr} {fd : FuncData} {ps ks : List Str} {sp : Sp} {E : XK} {x m : Str} {p pos apos kpos : Pos} {e o : Expr} {es : List Expr} {kws : List Keyword} {te ta : TE} {t tk : TA} {nm : Option Str}
theorem pk_nil : PK X [] tNil := fun _ _ _ _ H Q I h => wpAny_evalAll_nil ⟨[], H, I, .nil, h⟩
theorem pk_cons (ha : PE X e te) (hr : PK X kws t) : PK X (⟨nm, e, kpos⟩ :: kws) (tCons te t) := by
  intro pos pins s σ H Q I h
  show wpAny _ _ (evalAll ((do let v ← eval e X.env; standAt pos; pure v) :: (backToKw pos (keywordEach kws X.env)).map (·.2))) _ _ s
  refine wpAny_evalAll_cons (wpAny_bind (thn (ha pins s σ H _ I h) fun u s1 ⟨x, H1, I1, r1, q1⟩ => wpAny_bind (wpAny_standAt (wpAny_pure ?_))))
  exact thn (hr pos pins s1 σ H1 _ I1 q1) fun us s2 ⟨xs, H2, I2, r2, q2⟩ => ⟨x :: xs, H2, I2, .cons r1 r2, q2⟩

/-- how a call with keywords binds: g puts the positional values us and the keywords' values ws (names ks) in the parameters' order, defaults among them -/
structure KBinds (K : PySem.W.Frag) (fd : FuncData) (ps ks : List Str) (g : List Value → List Value → List Value) (gV : List V → List V → List V) : Prop where
  to : ∀ (s : Shared) (us ws : List Value), K.In s.heap → (g us ws).length = ps.length → BindsTo s fd ⟨us, ks.zip ws⟩ (ps.zip (g us ws))
  rel : ∀ {vs : List V} {us : List Value} {zs : List V} {ws : List Value}, Vals vs us → Vals zs ws → Vals (gV vs zs) (g us ws)
def tCallK (sp : Sp) (gV : List V → List V → List V) (E : XK) (t tk : TA) : TE := fun σ H Q => t σ H fun vs H1 => tk σ H1 fun zs H2 => sp (gV vs zs) H2 Q E
variable {g : List Value → List Value → List Value} {gV : List V → List V → List V}
theorem run_fnk {pins : List (Addr × Obj)} {σ : St} {H : Hp} {s : Shared} {Q : VK} {us ws : List Value} {vs zs : List V} (F : FnOk X.prog X.w X.K X.mg X.base CX k f fd ps sp) (hr : Room k X.A) (hb : KBinds X.K fd ps ks g gV) (hx : Passes CX X E)
    (I : Inv X pins σ H s) (r : Vals vs us) (rz : Vals zs ws) (h : sp (gV vs zs) H Q E) : wpAny (model X.prog X.w) X.A (call (.ref f) us (ks.zip ws)) (EP X pins σ Q) X.xe s := by
  have r2 := hb.rel r rz
  have hl : (g us ws).length = ps.length := by rw [← r2.length]; exact F.len _ _ _ _ h
  refine wpAny_call (codeAny_mono (F.run X.A X.stack s H ⟨us, ks.zip ws⟩ (g us ws) (gV vs zs) Q E hr I.env0 (hb.to s us ws I.kIn hl) r2 h) fun r s' hq => ?_)
  cases r with
  | error e => exact hx pins σ H s e s' I hq
  | ok fl =>
    cases fl with
    | ret u => exact I.after hq
    | next => exact False.elim hq
    | brk => exact False.elim hq
    | cont => exact False.elim hq
/-- f(e, .., k = v, ..) -/
theorem pe_callK (F : FnOk X.prog X.w X.K X.mg X.base CX k f fd ps sp) (hr : Room k X.A) (hg : Gl X x) (hm : X.mg x = some (.ref f)) (hk : PySem.W.keepIn X.K (.ref f) = true) (hb : KBinds X.K fd ps ks g gV) (hx : Passes CX X E)
    (ha : PA X (e :: es) t) (hkw : PK X kws tk) (hall : (backToKw pos (keywordEach kws X.env)).all (·.1.isSome) = true := by rfl) (hks : (backToKw pos (keywordEach kws X.env)).filterMap (·.1) = ks := by rfl)
    (hdb : (x == ("__debug__" : Str)) = false := by decide) (he : starEach (e :: es) X.env = (false, eval e X.env) :: starEach es X.env := by rfl)
    (hpl : ((backTo pos (starEach (e :: es) X.env)).any (·.1) || (backToKw pos (keywordEach kws X.env)).any (·.1.isNone)) = false := by rfl) :
    PE X (.Call (.Name x p) (e :: es) kws pos) (tCallK sp gV E t tk) := by
  intro pins s σ H Q I h
  refine wpAny_Call_Name_kw (ld_glob I hg hm ?_ hdb)
  refine PySem.W.callWith_KW (h₀ := X.base) I.ok.mod.kin hk hall (thn (ha pos pins s σ H _ I h) fun us s1 ⟨vs, H1, I1, r, q⟩ => ?_) hpl he
  refine thn (hkw pos pins s1 σ H1 _ I1 q) fun ws s2 ⟨zs, H2, I2, rz, q2⟩ => ⟨I2.kIn, ?_⟩
  rw [hks]
  exact run_fnk F hr hb hx I2 r rz q2
end

/-! ### a def's body keeps its promise -/
/-- names: the parameters first -/
structure FnScope (N P : List Str) (sc : Scope) : Prop where
  kind : sc.kind = .function
  co : sc.isCoroutine = false
  gen : sc.isGenerator = false
  nd : N.Nodup
  pre : N.take P.length = P
  par : ∀ x ∈ P, sc.names.lookup x = some .local ∨ sc.names.lookup x = some .cell
  nofree : ∀ y ∈ sc.names, y.2 ≠ .free

theorem bindL_out {kindOf : Str → Option NameKind} {x : Str} : ∀ {binds : List (Str × Value)} {m : Str → Option Value}, (∀ v, (x, v) ∉ binds) → bindL kindOf binds m x = m x
  | [], _, _ => rfl
  | (n, v) :: r, m, h => by
    unfold bindL
    rw [bindL_out fun w hw => h w (List.mem_cons_of_mem _ hw)]
    split
    · have : x ≠ n := by rintro rfl; exact h v List.mem_cons_self
      simp [this]
    · rfl
theorem bindC_out {kindOf : Str → Option NameKind} {x : Str} : ∀ {binds : List (Str × Value)} {m : Str → Option Value}, (∀ v, (x, v) ∉ binds) → bindC kindOf binds m x = m x
  | [], _, _ => rfl
  | (n, v) :: r, m, h => by
    unfold bindC
    rw [bindC_out fun w hw => h w (List.mem_cons_of_mem _ hw)]
    split
    · rfl
    · have : x ≠ n := by rintro rfl; exact h v List.mem_cons_self
      simp [this]
theorem bindL_get {kindOf : Str → Option NameKind} {x : Str} {v : Value} : ∀ {P : List Str} {vs : List Value} {i : Nat} {m : Str → Option Value}, P.Nodup → P[i]? = some x → vs[i]? = some v → kindOf x = some .local →
    bindL kindOf (P.zip vs) m x = some v
  | [], _, _, _, _, h, _, _ => by simp at h
  | _ :: _, [], _, _, _, _, h, _ => by simp at h
  | p :: P, w :: vs, 0, m, nd, h1, h2, hk => by
    simp at h1 h2; subst h1; subst h2
    show bindL kindOf ((p, w) :: P.zip vs) m p = _
    unfold bindL
    rw [bindL_out fun v hv => (List.nodup_cons.mp nd).1 (List.of_mem_zip hv).1, if_pos hk]
    simp
  | p :: P, w :: vs, i + 1, m, nd, h1, h2, hk => by
    show bindL kindOf ((p, w) :: P.zip vs) m x = _
    unfold bindL
    exact bindL_get (i := i) (List.nodup_cons.mp nd).2 (by simpa using h1) (by simpa using h2) hk
theorem bindC_get {kindOf : Str → Option NameKind} {x : Str} {v : Value} : ∀ {P : List Str} {vs : List Value} {i : Nat} {m : Str → Option Value}, P.Nodup → P[i]? = some x → vs[i]? = some v → kindOf x ≠ some .local →
    bindC kindOf (P.zip vs) m x = some v
  | [], _, _, _, _, h, _, _ => by simp at h
  | _ :: _, [], _, _, _, _, h, _ => by simp at h
  | p :: P, w :: vs, 0, m, nd, h1, h2, hk => by
    simp at h1 h2; subst h1; subst h2
    show bindC kindOf ((p, w) :: P.zip vs) m p = _
    unfold bindC
    rw [bindC_out fun v hv => (List.nodup_cons.mp nd).1 (List.of_mem_zip hv).1, if_neg hk]
    simp
  | p :: P, w :: vs, i + 1, m, nd, h1, h2, hk => by
    show bindC kindOf ((p, w) :: P.zip vs) m x = _
    unfold bindC
    exact bindC_get (i := i) (List.nodup_cons.mp nd).2 (by simpa using h1) (by simpa using h2) hk

/-- the names' values at the entry -/
def start (N : List Str) (vs : List V) : St := vs.map some ++ List.replicate (N.length - vs.length) none

/-- the context of a def's body, at its entry; an exception leaves the frame, then lies as CX says -/
def cxOf (CX : CXT) (P : Program) (w : World) (K : PySem.W.Frag) (mg : Str → Option Value) (base : Heap) (N : List Str) (qual : Str) (scope : Scope) (f : Addr) (cd : Value) (A : Around) (outer : List Env) (s : Shared) (H : Hp) (E : XK) : Cx where
  prog := P
  w := w
  K := K
  mg := mg
  base := base
  A := A.deeper (envOfC qual scope s.heap.objs.size f cd)
  N := N
  s₀ := s
  H₀ := H
  env := envOfC qual scope s.heap.objs.size f cd
  outer := outer
  stack := envOfC qual scope s.heap.objs.size f cd :: outer
  ex := []
  calm := true
  fn := fun _ => true
  pn := []
  xe := fun e s' => wpAny (model P w) (A.deeper (envOfC qual scope s.heap.objs.size f cd)) («leaving» (envOfC qual scope s.heap.objs.size f cd) e) (fun _ s'' => CX outer H s E e s'') (fun e' s'' => CX outer H s E e' s'') s'

theorem cell_has {sc : Scope} {n : Nat} {x : Str} (h : sc.names.lookup x = some .cell) : ∃ c, (cellsFrom n sc.names []).lookup x = some c := by
  have q := PySem.W.cellsFrom_some sc.names n [] (.inl h)
  exact Option.isSome_iff_exists.mp q

theorem inv_start {CX : CXT} {P : Program} {w : World} {K : PySem.W.Frag} {mg : Str → Option Value} {base : Heap} {N ps : List Str} {qual : Str} {scope : Scope} {f : Addr} {cd : Value} {A : Around} {outer : List Env} {s s1 : Shared} {H : Hp} {E : XK} {us : List Value} {vs : List V}
    (S : FnScope N ps scope) (hd : A.handled = none) (e0 : Env0 P w K mg base A outer s H) (hl : vs.length = ps.length) (r : Vals vs us)
    (x : InCallC s s.heap.objs.size (bindL (envOfC qual scope s.heap.objs.size f cd).kindOf (ps.zip us) fun _ => none) (cellsFrom (s.heap.objs.size + 1) scope.names []) (bindC (envOfC qual scope s.heap.objs.size f cd).kindOf (ps.zip us) fun _ => none) s1) :
    Inv (cxOf CX P w K mg base N qual scope f cd A outer s H E) [] (start N vs) H s1 := by
  have hpl : ps.length ≤ N.length := by have := congrArg List.length S.pre; rw [List.length_take] at this; omega
  obtain ⟨h1, tk, rfl, hk⟩ := x.done
  have noA : ∀ b : Addr, b ∉ (cxOf CX P w K mg base N qual scope f cd A outer s H E).ex := fun b z => absurd (show b ∈ ([] : List Addr) from z) (by simp)
  refine ⟨⟨e0.mod, S.kind, rfl, rfl, Nat.le_refl _, fun y z c h1 h2 => ?_, fun y hy => ?_, fun y c _ h => ?_, fun _ => hd, Around.frames_deeper e0.frames, .inr ⟨rfl, rfl⟩, fun b z => absurd z (noA b), e0.bs, e0.bsz, fun b _ _ => noA b, fun b z => absurd z (noA b), e0.funs, e0.frf⟩,
    rfl, e0.bare, Un.kept hk, ⟨_, x.toInCall.ns, fun i y v h1 h2 h3 => ?_⟩, fun y c h => ⟨_, x.cell y c h⟩, e0.hok.fresh (Nat.le_refl _), fun y c h => ?_, fun p hp => absurd (show p ∈ ([] : List (Addr × Obj)) from hp) (by simp), e0.hok.kept hk, ?_⟩
  · exact name_of_addr x.apart (PySem.mem_of_lookup h1) (PySem.mem_of_lookup h2)
  · have hy : scope.names.lookup y = some .cell ∨ scope.names.lookup y = some .free := hy
    rcases hy with hy | hy
    · exact cell_has hy
    · exact absurd rfl (S.nofree _ (PySem.mem_of_lookup hy))
  · exact Nat.le_of_lt (x.above y c (PySem.mem_of_lookup h))
  · have hi : i < vs.length := by
      unfold start at h2
      by_cases hi : i < vs.length
      · exact hi
      · rw [List.getElem?_append_right (by simpa using hi)] at h2
        rw [List.getElem?_replicate] at h2
        split at h2 <;> cases h2
    have ha : vs[i]? = some v := by
      unfold start at h2
      rw [List.getElem?_append_left (by simpa using hi), List.getElem?_map] at h2
      cases e : vs[i]? with
      | none => rw [e] at h2; cases h2
      | some a => rw [e] at h2; cases h2; rfl
    obtain ⟨u, hu, rv⟩ := r.get ha
    have hp : ps[i]? = some y := by
      rw [← S.pre, List.getElem?_take_of_lt (by omega)]; exact h1
    have ndP : ps.Nodup := by rw [← S.pre]; exact S.nd.sublist (List.take_sublist _ _)
    refine ⟨u, rv, ?_⟩
    rcases S.par y (List.mem_of_getElem? hp) with k | k
    · exact .inl ⟨k, bindL_get ndP hp hu k⟩
    · obtain ⟨c, e⟩ := cell_has (n := s.heap.objs.size + 1) k
      refine .inr ⟨.inl k, c, e, ?_⟩
      have q := x.cell y c e
      rw [bindC_get ndP hp hu (by show scope.names.lookup y ≠ _; rw [k]; decide)] at q
      exact q
  · exact e0.hok.fresh (Nat.le_of_lt (x.above y c (PySem.mem_of_lookup h)))
  · unfold start
    show _ = N.length
    rw [List.length_append, List.length_map, List.length_replicate]
    omega

/-- THE RULE: a def (or a method) of the text, by its body. The body's reading t is chosen for each entry; it is run at the parameters' values -/
theorem fn_of {CX : CXT} {P : Program} {w : World} {K : PySem.W.Frag} {mg : Str → Option Value} {base : Heap} {k : Nat} {f : Addr} {name qual : Str} {params : Arguments} {body : List Stmt} {scope : Scope} {dV kV doc pm cdv ct oc : Value} {an od : Option Addr}
    {osl : Array (Option Value)} {N ps : List Str} {sp : Sp} (lk : K.lookup f = some ⟨oc, od, .func (PySem.W.fnOf name qual params body scope dV kV doc pm an cdv ct), osl⟩) (hcd : PySem.W.codeIn K cdv qual = true) (S : FnScope N ps scope)
    (len : ∀ vs H Q E, sp vs H Q E → vs.length = ps.length)
    (hbody : ∀ (A : Around) (outer : List Env) (s : Shared) (H : Hp) (vs : List V) (Q : VK) (E : XK), Room k (A.deeper (envOfC qual scope s.heap.objs.size f cdv)) → sp vs H Q E →
      ∃ t, PSs (cxOf CX P w K mg base N qual scope f cdv A outer s H E) body t ∧ t { nx := fun _ H' => Q .non H', rt := Q } (start N vs) H) :
    FnOk P w K mg base CX (k + 1) f (PySem.W.fnOf name qual params body scope dV kV doc pm an cdv ct) ps sp := by
  refine ⟨len, fun A outer s H args us vs Q E hr e0 hb r hsp => ?_⟩
  have hl := len _ _ _ _ hsp
  have KX : K.In s.heap := e0.mod.kin.keeps fun b o e => (e0.bs b o e).1
  have lim : s.heap.NoLimit := e0.mod.nolimit.keeps fun b o e => (e0.bs b o e).1
  have hkind : ∀ y ∈ ps.zip us, scope.names.lookup y.1 = some .local ∨ (scope.names.lookup y.1 = some .cell ∧ ((cellsFrom (s.heap.objs.size + 1) scope.names []).lookup y.1).isSome = true) := fun ⟨n, v⟩ hy => by
    rcases S.par n (List.of_mem_zip hy).1 with q | q
    · exact .inl q
    · exact .inr ⟨q, PySem.W.cellsFrom_some _ _ _ (.inl q)⟩
  refine codeAny_call_function hr.depth (KX _ _ lk) rfl S.co S.gen rfl (PySem.W.codeRec_of KX hcd) (hb _ _ _ _ ?_)
  refine wpAny_newFunctionEnv_cells S.kind hkind fun env he s1 x => ?_
  subst he
  refine ⟨lim.keeps x.toInCall.keep, codeAny_func ?_⟩
  obtain ⟨t, ht, hq⟩ := hbody A outer s H vs Q E (hr.deeper _) hsp
  have I : Inv (cxOf CX P w K mg base N qual scope f cdv A outer s H E) [] (start N vs) H s1 := inv_start S hr.hd e0 hl r x
  refine wpAny_mono (ht [] s1 (start N vs) H _ I hq) (fun fl s' hs => ?_) fun e s' hs => hs
  have fin : ∀ {σ' : St} {H' : Hp} {v : V} {u : Value}, Inv (cxOf CX P w K mg base N qual scope f cdv A outer s H E) [] σ' H' s' → RelV v u → Q v H' → CE outer P w H s Q u s' :=
    fun {σ' H' v u} J rv q => ⟨v, H', J.os, J.bare, J.base, J.hok, rv, q⟩
  cases fl with
  | ret u =>
    obtain ⟨v, σ', H', J, rv, q⟩ := hs
    exact fin J rv q
  | next =>
    obtain ⟨σ', H', J, q⟩ := hs
    exact fin (v := V.non) (u := Value.none) J rfl q
  | brk =>
    obtain ⟨_, _, _, q⟩ := hs
    exact False.elim q
  | cont =>
    obtain ⟨_, _, _, q⟩ := hs
    exact False.elim q
end L2

namespace L2
open PySem PySem.Spec PyProof.Rows
section
variable {X : Cx} {x : Str} {p pos : Pos} {e : Expr} {es : List Expr} {t : TA} {id T : String} {r : List V → Hp → VK → Prop}

def tCB (r : List V → Hp → VK → Prop) (t : TA) : TE := fun σ H Q => t σ H fun vs H1 => r vs H1 Q
/-- f(e, ..), f a built-in function -/
theorem pe_callB (hc : CallR X (.builtin id) r) (hg : Gl X x) (hm : X.mg x = none) (hv : bootBuiltins x = some (.builtin id)) (ha : PA X (e :: es) t) (hn : x ≠ "__name__" := by decide) (hdb : (x == ("__debug__" : Str)) = false := by decide)
    (he : starEach (e :: es) X.env = (false, eval e X.env) :: starEach es X.env := by rfl) (hpl : (backTo pos (starEach es X.env)).any (·.1) = false := by rfl) : PE X (.Call (.Name x p) (e :: es) [] pos) (tCB r t) := by
  intro pins s σ H Q I h
  refine wpAny_Call_Name_kw (ld_blt I hg hm hv ?_ hn hdb)
  exact PyProof.Rows.callWith_builtin1 (thn (ha pos pins s σ H _ I h) fun us s1 ⟨vs, H1, I1, r1, q1⟩ => hc pins s1 σ H1 vs us Q I1 r1 q1) he hpl
/-- T(e, ..), T a built-in type -/
theorem pe_callTy (hc : CallR X (.type T) r) (hg : Gl X x) (hm : X.mg x = none) (hv : bootBuiltins x = some (.type T)) (ha : PA X (e :: es) t) (hn : x ≠ "__name__" := by decide) (hdb : (x == ("__debug__" : Str)) = false := by decide)
    (he : starEach (e :: es) X.env = (false, eval e X.env) :: starEach es X.env := by rfl) (hpl : (backTo pos (starEach es X.env)).any (·.1) = false := by rfl) : PE X (.Call (.Name x p) (e :: es) [] pos) (tCB r t) := by
  intro pins s σ H Q I h
  refine wpAny_Call_Name_kw (ld_blt I hg hm hv ?_ hn hdb)
  exact PyProof.Rows.callWith_type1 (thn (ha pos pins s σ H _ I h) fun us s1 ⟨vs, H1, I1, r1, q1⟩ => hc pins s1 σ H1 vs us Q I1 r1 q1) he hpl
/-- T() -/
theorem pe_callTy0 (hc : CallR X (.type T) r) (hg : Gl X x) (hm : X.mg x = none) (hv : bootBuiltins x = some (.type T)) (hn : x ≠ "__name__" := by decide) (hdb : (x == ("__debug__" : Str)) = false := by decide) :
    PE X (.Call (.Name x p) [] [] pos) (tCB r tNil) := by
  intro pins s σ H Q I h
  refine wpAny_Call_Name_kw (ld_blt I hg hm hv ?_ hn hdb)
  exact PyProof.Rows.callWith_type0 (hc pins s σ H [] [] Q I .nil h)
end
end L2

namespace HT
open PySem PyProof.Rows

/-- t < u of tuples of ints -/
def lexLt : List Int → List Int → Bool
  | [], [] => false
  | [], _ :: _ => true
  | _ :: _, [] => false
  | x :: xs, y :: ys => if x = y then lexLt xs ys else decide (x < y)
theorem lexLt_cons (x y : Int) (xs ys : List Int) : lexLt (x :: xs) (y :: ys) = if x = y then lexLt xs ys else decide (x < y) := rfl
theorem lexLt_nil_nil : lexLt [] [] = false := rfl
theorem lexLt_nil_cons (y : Int) (ys : List Int) : lexLt [] (y :: ys) = true := rfl
theorem lexLt_cons_nil (x : Int) (xs : List Int) : lexLt (x :: xs) [] = false := rfl

theorem eqAt_int (A : Around) (s : Shared) (a : Int) (t : Tok) (c : Int) (u : Tok) : ∃ e, SeqAt.EqAt A s (.int a t) (.int c u) e ∧ (e = true ↔ a = c) :=
  ⟨(a == c), SeqAt.EqAt.int_int a t c u, by simp⟩
theorem rcLt_int (A : Around) (s : Shared) (a : Int) (t : Tok) (c : Int) (u : Tok) (prog : Program) (w : World) (E : Value → Shared → Prop) (Q : Value → Shared → Prop) (h : Q (.bool (decide (a < c))) s) :
    wpAny (model prog w) A (richCompare .Lt (.int a t) (.int c u)) Q E s :=
  (PyProof.Rows.lt_int h : wpAny (model prog w) A (compareOp .Lt (.int a t) (.int c u)) Q E s)

section
open PySem.SeqAt
open PySem.AutoSeq1 (wpAny_loadPart')
open PySem.MeetsSeq PySem.MeetsSeq2 PySem.MeetsSeq3

theorem tuple_lt_ints (l b : Addr) (items items2 : Array Value) (n n2 : Nat) (dd dd2 : Option Addr) (sl sl2 : Array (Option Value)) (ns ms : List Int) (hi : IntsAre items.toList ns) (hj : IntsAre items2.toList ms) :
    Meets (Builtin.«tuple.__lt__» ⟨[.ref l, .ref b], []⟩)
      (fun _ R s => s.heap.get? l = some { cls := .type "tuple", dict := dd, data := .seq items n, slots := sl } ∧ s.heap.get? b = some { cls := .type "tuple", dict := dd2, data := .seq items2 n2, slots := sl2 } ∧
        R (.ok (.ret (.bool (lexLt ns ms)))) s) :=
  .of_wp fun prog w A R s h => by
    obtain ⟨hp, g, d, tk, os⟩ := s; obtain ⟨hl, hb, h⟩ := h
    have f2 := AutoSeq1.sub_tuple_tuple
    have z1 : items.size = ns.length := by rw [← hi.length]; simp
    have z2 : items2.size = ms.length := by rw [← hj.length]; simp
    wp_walk using wpAny_loadPart' hl, wpAny_loadPart' hb, wpAny_forIn_list _ (fun rest b s' => b.1 = none ∧ s' = ⟨hp, g, d, tk, os⟩ ∧ ∃ (vs ws : List Value) (ns' ms' : List Int), rest = vs.zip ws ∧
      IntsAre vs ns' ∧ IntsAre ws ms' ∧ ns'.length + items2.size = ms'.length + items.size ∧ R (.ok (.ret (.bool (lexLt ns' ms')))) ⟨hp, g, d, tk, os⟩) _
    case turn =>
      rintro ⟨y, x⟩ rest b s' ⟨hb', rfl, vs, ws, ns', ms', hz, hvi, hwi, hlen, hR⟩
      cases hvi with
      | nil => rw [List.zip_nil_left] at hz; cases hz
      | cons a t hvi' =>
        cases hwi with
        | nil => rw [List.zip_nil_right] at hz; cases hz
        | cons c u hwi' =>
          rw [List.zip_cons_cons] at hz
          injection hz with hyx hrest
          injection hyx with hy hx
          subst hy hx
          rw [lexLt_cons] at hR
          simp only [List.length_cons] at hlen
          obtain ⟨e, he, hiff⟩ := eqAt_int A.in1 ⟨hp, g, d, tk, os⟩ a t c u
          refine wpAny_bind (he prog w _ _ ?_)
          cases e with
          | true =>
            rw [if_pos (hiff.mp rfl)] at hR
            wp_walk
            exact ⟨rfl, rfl, _, _, _, _, hrest, hvi', hwi', by omega, hR⟩
          | false =>
            rw [if_neg (fun q => absurd (hiff.mpr q) Bool.false_ne_true)] at hR
            have hri := rcLt_int A.in1 ⟨hp, g, d, tk, os⟩ a t c u prog w
            wp_walk using hri
            exact ⟨_, rfl, by simpa using hR⟩
    case fin =>
      rintro ⟨b1, b2⟩ s' ⟨hb', rfl, vs, ws, ns', ms', hz, hvi, hwi, hlen, hR⟩
      simp only at hb'
      subst hb'
      have hv : lexLt ns' ms' = decide (items.size < items2.size) := by
        cases hvi with
        | nil =>
          cases hwi with
          | nil =>
            simp only [List.length_nil] at hlen
            rw [lexLt_nil_nil]
            exact (decide_eq_false (by omega)).symm
          | cons c u hw =>
            simp only [List.length_nil, List.length_cons] at hlen
            rw [lexLt_nil_cons]
            exact (decide_eq_true (by omega)).symm
        | cons a t hv =>
          cases hwi with
          | nil =>
            simp only [List.length_nil, List.length_cons] at hlen
            rw [lexLt_cons_nil]
            exact (decide_eq_false (by omega)).symm
          | cons c u hw =>
            rw [List.zip_cons_cons] at hz
            cases hz
      rw [hv] at hR
      wp_walk
      exact ⟨_, rfl, by simpa [Builtin.Tuple.tupleCompareSizes] using hR⟩
    case h =>
      exact ⟨rfl, rfl, items.toList, items2.toList, ns, ms, rfl, hi, hj, by omega, h⟩
end

section
variable {prog : Program} {w : World} {A : Around} {E : Value → Shared → Prop} {s : Shared}

theorem lt_tupInts {l b : Addr} {items items2 : Array Value} {ns ms : List Int} {Q : Value → Shared → Prop} (hl : IsTup s.heap l items) (hb : IsTup s.heap b items2) (hi : IntsAre items.toList ns) (hj : IntsAre items2.toList ms)
    (hu : A.units < cLine) (h : Q (.bool (lexLt ns ms)) s) : wpAny (model prog w) A (compareOp .Lt (.ref l) (.ref b)) Q E s := by
  obtain ⟨⟨cls, dd, data, sl⟩, ho, hc, n, hd⟩ := id hl
  obtain ⟨⟨cls2, dd2, data2, sl2⟩, ho2, hc2, n2, hd2⟩ := id hb
  simp only at hc hd hc2 hd2
  subst hc hd hc2 hd2
  exact richCompare_meets_room (op := .Lt) ⟨_, ho, rfl⟩ ⟨_, ho2, rfl⟩ PySem.F.slot_tuple_lt PySem.F.entry_tuple_lt (PySem.F.args_tuple_lt_2 _ _) (tuple_lt_ints l b items items2 n n2 dd dd2 sl sl2 ns ms hi hj)
    ⟨ho, ho2, show Value.bool (lexLt ns ms) ≠ Value.notImplemented ∧ Q (.bool (lexLt ns ms)) s from ⟨(fun x => nomatch x), h⟩⟩ hu

/-- t + u, t not empty -/
theorem cat_tup {t b : Addr} {vs ws : List Value} {Q : Value → Shared → Prop} (ht : IsTup s.heap t vs.toArray) (hb : IsTup s.heap b ws.toArray) (hv : vs ≠ [])
    (h1 : ws = [] → Q (.ref t) s) (h2 : ws ≠ [] → Q (.ref s.heap.objs.size) { s with heap := s.heap.push { cls := .type "tuple", data := .seq (vs ++ ws).toArray } })
    (hsz : vs.length + ws.length ≤ sizeLine) : wpAny (model prog w) A (binaryOp .Add (.ref t) (.ref b)) Q E s := by
  obtain ⟨⟨cls, dd, data, sl⟩, ho, hc, n, hd⟩ := id ht
  obtain ⟨⟨cls2, dd2, data2, sl2⟩, ho2, hc2, n2, hd2⟩ := id hb
  simp only at hc hd hc2 hd2
  subst hc hd hc2 hd2
  have e : vs.toArray ++ ws.toArray = (vs ++ ws).toArray := by simp
  by_cases hw : ws = []
  · exact concat_meets ⟨_, ho, rfl⟩ ⟨_, ho2, rfl⟩ noFill_tuple_add seq_tuple_add PySem.F.slot_tuple_add PySem.F.entry_tuple_add (PySem.F.args_tuple_add_2 _ _)
      (tuple_addW1 t b vs.toArray ws.toArray n n2 dd dd2 sl sl2 (by simpa using hv) (by simp [hw])) ⟨ho, ho2, h1 hw⟩
  · refine concat_meets ⟨_, ho, rfl⟩ ⟨_, ho2, rfl⟩ noFill_tuple_add seq_tuple_add PySem.F.slot_tuple_add PySem.F.entry_tuple_add (PySem.F.args_tuple_add_2 _ _)
      (tuple_addW2 t b vs.toArray ws.toArray n n2 dd dd2 sl sl2 (by simpa using hv) (by simpa using hw) (by rw [List.size_toArray, List.size_toArray]; exact hsz)) ⟨ho, ho2, ?_⟩
    rw [e]
    exact h2 hw

/-! ### t[a:b], not the whole -/
/-- a slice's bound as a place among n (d where it is left out) -/
def sIx (n d : Nat) : Option Int → Nat
  | none => d
  | some v => if v < 0 then (v + (n : Int)).toNat else min v.toNat n
theorem sIx_none (n d : Nat) : sIx n d none = d := rfl
theorem sIx_nat (n d k : Nat) : sIx n d (some (k : Int)) = min k n := by
  show (if (k : Int) < 0 then ((k : Int) + (n : Int)).toNat else min (k : Int).toNat n) = min k n
  rw [if_neg (by omega), Int.toNat_natCast]
theorem sIx_le (n d : Nat) (hd : d ≤ n) (o : Option Int) : sIx n d o ≤ n := by
  cases o with
  | none => exact hd
  | some v =>
    show (if v < 0 then (v + (n : Int)).toNat else min v.toNat n) ≤ n
    by_cases hv : v < 0
    · rw [if_pos hv]; omega
    · rw [if_neg hv]; exact Nat.min_le_right _ _
theorem clip_eq (v : Int) (n d : Nat) : (if v < 0 then max (v + (n : Int)) 0 else min v (n : Int)) = ((sIx n d (some v) : Nat) : Int) := by
  show (if v < 0 then max (v + (n : Int)) 0 else min v (n : Int)) = (((if v < 0 then (v + (n : Int)).toNat else min v.toNat n) : Nat) : Int)
  by_cases hv : v < 0
  · simp only [if_pos hv]; omega
  · simp only [if_neg hv]; omega
theorem adjust_gen (lo hi : Option Int) (n : Nat) : Builtin.Slice.sliceAdjust lo hi 1 (n : Int) = (((sIx n 0 lo : Nat) : Int), ((sIx n n hi : Nat) : Int)) := by
  have h1 : ¬ ((1 : Int) < 0) := by omega
  unfold Builtin.Slice.sliceAdjust
  simp only [h1, if_false]
  refine Prod.ext ?_ ?_
  · cases lo with
    | none => rfl
    | some v => exact clip_eq v n 0
  · cases hi with
    | none => rfl
    | some v => exact clip_eq v n n
theorem places_gen (i j : Nat) : Builtin.Slice.slicePlaces (i : Int) (j : Int) 1 = j - i := by
  unfold Builtin.Slice.slicePlaces
  have h1 : (1 : Int) > 0 := by omega
  simp only [h1, if_true, Int.ediv_one]
  split <;> omega
theorem slicePart_ {v : Value} {o : Option Int} {Q : Option Int → Shared → Prop} (p : IsPart v o) (h : Q o s) : wpAny (model prog w) A (Builtin.Slice.slicePartIndex v) Q E s := by
  cases p with
  | none => exact slicePart_none h
  | int i t => exact slicePart_int h
theorem sliceApplied_gen {sl : Addr} {vl vu : Value} {lo hi : Option Int} {n : Nat} {Q : Int × Int × Nat → Shared → Prop} (hs : s.heap.IsSliceOf sl vl vu .none) (pl : IsPart vl lo) (pu : IsPart vu hi)
    (h : Q (((sIx n 0 lo : Nat) : Int), 1, sIx n n hi - sIx n 0 lo) s) : wpAny (model prog w) A (Builtin.Slice.sliceApplied (.ref sl) (pure (n : Int))) Q E s := by
  obtain ⟨os, hos, hcs, hds⟩ := id hs
  unfold Builtin.Slice.sliceApplied Builtin.Slice.sliceFields
  refine wpAny_bind (wpAny_bind (wpAny_field hos hds (x := vl) rfl (wpAny_bind (wpAny_field hos hds (x := vu) rfl (wpAny_bind (wpAny_field hos hds (x := .none) rfl (wpAny_pure ?_)))))))
  refine wpAny_bind (slicePart_none ?_)
  show wpAny _ _ (if ((1 : Int) == 0) = true then _ else _) _ _ s
  rw [if_neg (by decide)]
  refine wpAny_bind (slicePart_ pl (wpAny_bind (slicePart_ pu (wpAny_bind (wpAny_pure ?_)))))
  show wpAny _ _ (match Builtin.Slice.sliceAdjust lo hi 1 (n : Int) with | (lo, hi) => pure (lo, (1 : Int), Builtin.Slice.slicePlaces lo hi 1)) _ _ s
  rw [adjust_gen lo hi n]
  show wpAny _ _ (pure (((sIx n 0 lo : Nat) : Int), (1 : Int), Builtin.Slice.slicePlaces ((sIx n 0 lo : Nat) : Int) ((sIx n n hi : Nat) : Int) 1)) _ _ s
  rw [places_gen]
  exact wpAny_pure h
theorem pick_gen (xs : Array Value) (i k : Nat) : ((List.range k).filterMap fun (m : Nat) => xs[((i : Int) + (m : Int) * 1).toNat]?).toArray = ((xs.toList.drop i).take k).toArray := by
  have e : (fun (m : Nat) => xs[((i : Int) + (m : Int) * 1).toNat]?) = fun m => xs[i + m]? := by
    funext m
    have : ((i : Int) + (m : Int) * 1).toNat = i + m := by omega
    rw [this]
  rw [e]
  have := pick_run xs i k
  rw [List.filterMap_map] at this
  have e2 : ((fun x => xs[x]?) ∘ fun x => i + x) = fun m => xs[i + m]? := rfl
  rw [e2] at this
  rw [this]

theorem getItem_tuple_cut {t sl : Addr} {items : Array Value} {vl vu : Value} {lo hi : Option Int} {Q : Value → Shared → Prop} (ht : IsTup s.heap t items) (hs : s.heap.IsSliceOf sl vl vu .none) (pl : IsPart vl lo) (pu : IsPart vu hi)
    (hw : ¬ (sIx items.size 0 lo = 0 ∧ sIx items.size items.size hi = items.size))
    (h : Q (.ref s.heap.objs.size) { s with heap := s.heap.push { cls := .type "tuple", data := .seq ((items.toList.drop (sIx items.size 0 lo)).take (sIx items.size items.size hi - sIx items.size 0 lo)).toArray } })
    (hsz : items.size ≤ sizeLine) : wpAny (model prog w) A (getItem (.ref t) (.ref sl)) Q E s := by
  have htake : sizeOk (.seq ((items.toList.drop (sIx items.size 0 lo)).take (sIx items.size items.size hi - sIx items.size 0 lo)).toArray) := by
    show ((items.toList.drop (sIx items.size 0 lo)).take (sIx items.size items.size hi - sIx items.size 0 lo)).toArray.size ≤ sizeLine
    rw [List.size_toArray, List.length_take, List.length_drop, Array.length_toList]
    omega
  have hj : sIx items.size items.size hi ≤ items.size := sIx_le _ _ (Nat.le_refl _) hi
  obtain ⟨os, hos, hcs, hds⟩ := id hs
  have hTs : s.TypeIs (.ref sl) "slice" := ⟨os, hos, hcs⟩
  unfold getItem
  try with_reducible refine wpAny_holding ?_
  first | refine wpAny_bind (wpAny_pure ?_) | skip
  refine wpAny_bind (wpAny_sequenceKey ht.typeIs (by decide) ?_)
  refine wpAny_bind (wpAny_callSpecial?_slot (name := Str.ofString "__getitem__") ht.typeIs PyProof.Rows.slot_tuple_getitem
    (wpAny_call_entry PyProof.Rows.slot_tuple_getitem ht.typeIs entry_tuple_getitem ?_ (args_tuple_getitem _ _)))
  show wpAny _ _ (Builtin.Tuple.tupleItemsOf (.ref t) >>= _) _ _ s
  refine wpAny_bind (tupleItemsOf_ ht ?_)
  refine wpAny_bind (wpAny_typeOf hTs ?_)
  rw [if_pos (by decide)]
  refine wpAny_bind (sliceApplied_gen hs pl pu ?_)
  have hno : ¬ ((((sIx items.size 0 lo : Nat) : Int) == 0 && (1 : Int) == 1 && (sIx items.size items.size hi - sIx items.size 0 lo) == items.size) = true) := by
    intro q
    rw [Bool.and_eq_true, Bool.and_eq_true] at q
    have q1 : ((sIx items.size 0 lo : Nat) : Int) = 0 := eq_of_beq q.1.1
    have q2 : sIx items.size items.size hi - sIx items.size 0 lo = items.size := eq_of_beq q.2
    exact hw ⟨by omega, by omega⟩
  show wpAny _ _ (if (((sIx items.size 0 lo : Nat) : Int) == 0 && (1 : Int) == 1 && (sIx items.size items.size hi - sIx items.size 0 lo) == items.size) = true then _ else _) _ _ s
  rw [if_neg hno, pick_gen]
  first
    | exact wpAny_bind (m := Builtin.Tuple.tupleExact _) (wpAny_newObj_type (wpAny_pure ⟨_, rfl, wpAny_pure h⟩) htake)
    | exact wpAny_bind (m := Builtin.Tuple.tupleExact _) (wpAny_newObj_type (wpAny_bind (wpAny_pure (wpAny_pure ⟨_, rfl, wpAny_pure h⟩))) htake)
    | exact wpAny_bind (wpAny_bind (m := Builtin.Tuple.tupleExact _) (wpAny_newObj_type (wpAny_pure (wpAny_pure ⟨_, rfl, wpAny_pure h⟩)) htake))
    | exact wpAny_bind (wpAny_bind (m := Builtin.Tuple.tupleExact _) (wpAny_newObj_type (wpAny_pure ⟨_, rfl, wpAny_pure h⟩) htake))
end
end HT

namespace L2
open PySem PySem.Spec PyProof.Rows

/-! ### the parts of a slice -/
abbrev TO := St → Hp → (Option Int → Hp → Prop) → Prop
/-- a slice's part (left out, or an int) -/
def PO (X : Cx) (e : Option Expr) (t : TO) : Prop :=
  ∀ (pins : List (Addr × Obj)) (s : Shared) (σ : St) (H : Hp) (Q : Option Int → Hp → Prop), Inv X pins σ H s → t σ H Q →
    wpAny (model X.prog X.w) X.A (evalPart e X.env) (fun u s' => ∃ o H', Inv X pins σ H' s' ∧ IsPart u o ∧ Q o H') X.xe s
def tNoPart : TO := fun _ H Q => Q none H
def tPart (t : TE) : TO := fun σ H Q => t σ H fun x H1 => ∃ i, x = .int i ∧ Q (some i) H1

theorem intsAre_of {ns : List Int} : ∀ {us : List Value}, Vals (ns.map V.int) us → IntsAre us ns := by
  induction ns with
  | nil => intro us r; rw [List.map_nil] at r; cases r; exact .nil
  | cons n ns ih =>
    intro us r
    rw [List.map_cons] at r
    cases r with
    | cons r1 r2 =>
      obtain ⟨t, e⟩ := r1
      subst e
      exact .cons n t (ih r2)

section
variable {X : Cx} {e : Expr} {te : TE} {lo hi : Option Expr} {tl th : TO} {pos p2 : Pos}

theorem po_none : PO X none tNoPart := by
  intro pins s σ H Q I h
  rw [evalPart_none]
  exact wpAny_pure ⟨none, H, I, .none, h⟩
theorem po_some (h : PE X e te) : PO X (some e) (tPart te) := by
  intro pins s σ H Q I hw
  rw [evalPart_some]
  refine thn (h pins s σ H _ I hw) fun u s1 ⟨x, H1, I1, r1, q1⟩ => ?_
  obtain ⟨i, rfl, q⟩ := q1
  obtain ⟨t, rfl⟩ := r1
  exact ⟨some i, H1, I1, .int i t, q⟩

/-- what a slice of a value is, by values: the slice object stands at sl -/
def SlR (X : Cx) (r : V → Option Int → Option Int → Hp → VK → Prop) : Prop :=
  ∀ (pins : List (Addr × Obj)) (s : Shared) (σ : St) (H : Hp) (x : V) (v vl vu : Value) (lo hi : Option Int) (sl : Addr) (Q : VK), Inv X pins σ H s → RelV x v → s.heap.IsSliceOf sl vl vu .none → IsPart vl lo → IsPart vu hi → r x lo hi H Q →
    ∃ T id, typeLookup (.type T) "__getitem__" = pure (some (.builtin id)) ∧ s.TypeIs v T ∧ wpAny (model X.prog X.w) X.A (getItem v (.ref sl)) (EP X pins σ Q) X.xe s
theorem SlR.or {r r' : V → Option Int → Option Int → Hp → VK → Prop} (h : SlR X r) (h' : SlR X r') : SlR X (fun x lo hi H Q => r x lo hi H Q ∨ r' x lo hi H Q) := by
  intro pins s σ H x v vl vu lo hi sl Q I rx hs pl pu q
  rcases q with q | q
  · exact h pins s σ H x v vl vu lo hi sl Q I rx hs pl pu q
  · exact h' pins s σ H x v vl vu lo hi sl Q I rx hs pl pu q
def tSl (r : V → Option Int → Option Int → Hp → VK → Prop) (te : TE) (tl th : TO) : TE := fun σ H Q => te σ H fun x H1 => tl σ H1 fun l H2 => th σ H2 fun u H3 => r x l u H3 Q
/-- a[lo:hi], any a -/
theorem pe_slice {r : V → Option Int → Option Int → Hp → VK → Prop} (hr : SlR X r) (he : PE X e te) (hl : PO X lo tl) (hu : PO X hi th) : PE X (.Subscript e (.Slice lo hi none p2) pos) (tSl r te tl th) := by
  intro pins s σ H Q I h
  refine Subscript_ (thn (he pins s σ H _ I h) fun v s1 ⟨x, H1, I1, r1, q1⟩ => ?_)
  refine wpAny_Slice (thn (hl pins s1 σ H1 _ I1 q1) fun vl s2 ⟨l, H2, I2, pl, q2⟩ => thn (hu pins s2 σ H2 _ I2 q2) fun vu s3 ⟨u, H3, I3, pu, q3⟩ => ?_)
  rw [evalPart_none]
  refine wpAny_pure ?_
  have I4 : Inv X pins σ H3 { s3 with heap := s3.heap.push { cls := .type "slice", data := .fields #[vl, vu, .none] } } := I3.kept (t' := s3.toks) fun b ob q => Heap.get?_push_of_some _ q
  obtain ⟨T, id, hT, ht, hg⟩ := hr pins { s3 with heap := s3.heap.push { cls := .type "slice", data := .fields #[vl, vu, .none] } } σ H3 x v vl vu l u s3.heap.objs.size Q I4 r1 (Heap.IsSliceOf.new ..) pl pu q3
  show wpAny (model X.prog X.w) X.A (subscriptTail e (.Slice lo hi none p2) v (.ref s3.heap.objs.size)) (EP X pins σ Q) X.xe { s3 with heap := s3.heap.push { cls := .type "slice", data := .fields #[vl, vu, .none] } }
  exact tail_any (ops := [.ref s3.heap.objs.size, v]) ht hT hg (by with_unfolding_all rfl)

/-- the items of xs[lo:hi] -/
def cutV (xs : List V) (lo hi : Option Int) : List V := (xs.drop (HT.sIx xs.length 0 lo)).take (HT.sIx xs.length xs.length hi - HT.sIx xs.length 0 lo)
theorem cutV_length (xs : List V) (lo hi : Option Int) : (cutV xs lo hi).length ≤ xs.length := by
  unfold cutV
  rw [List.length_take, List.length_drop]
  omega
/-- t[lo:hi], not the whole of it (the whole would be t itself) -/
def rSlT (K : PySem.W.Frag) : V → Option Int → Option Int → Hp → VK → Prop := fun x lo hi H Q => ∃ a xs, x = .ref a ∧ SqT K H a xs ∧
  ¬ (HT.sIx xs.length 0 lo = 0 ∧ HT.sIx xs.length xs.length hi = xs.length) ∧ ∀ p, H p = none → Q (.ref p) (upd H p (.tup (cutV xs lo hi)))
theorem sl_tup : SlR X (rSlT X.K) := by
  intro pins s σ H x v vl vu lo hi sl Q I rx hs pl pu h
  obtain ⟨a, xs, rfl, hx, hw, q⟩ := h
  cases rx
  obtain ⟨its, r, ht, hz⟩ := I.tuple hx
  have hlen : its.toArray.size = xs.length := by rw [List.size_toArray]; exact r.length.symm
  refine ⟨"tuple", _, PyProof.Rows.slot_tuple_getitem.lookup, ht.typeIs, ?_⟩
  refine HT.getItem_tuple_cut ht hs pl pu (by rw [hlen]; exact hw) ?_ (by rw [hlen]; exact hz)
  rw [hlen]
  refine ⟨.ref s.heap.objs.size, _, I.laid (t' := s.toks) (o := .tup (cutV xs lo hi)) (fun b ob q => Heap.get?_push_of_some _ q) (Nat.le_refl _) ?_, rfl, q _ (I.hok.fresh (Nat.le_refl _))⟩
  exact ⟨Nat.le_trans (cutV_length xs lo hi) hz, _, (r.drop (HT.sIx xs.length 0 lo)).take (HT.sIx xs.length xs.length hi - HT.sIx xs.length 0 lo), IsTup.new _ _⟩

/-! ### t < u, t + u -/
def rLtT (K : PySem.W.Frag) : R2 := fun x y H Q => ∃ a b ns ms, x = .ref a ∧ y = .ref b ∧ SqT K H a (ns.map V.int) ∧ SqT K H b (ms.map V.int) ∧ Q (.bl (HT.lexLt ns ms)) H
theorem op_ltT (hu : X.A.units < cLine) : OpR X (compareOp .Lt) (rLtT X.K) := by
  intro pins s σ H x y v u Q I rx ry h
  obtain ⟨a, b, ns, ms, rfl, rfl, ha, hb, q⟩ := h
  cases rx
  cases ry
  obtain ⟨its, r1, p1, _⟩ := I.tuple ha
  obtain ⟨its2, r2, p2, _⟩ := I.tuple hb
  have i1 : IntsAre its.toArray.toList ns := intsAre_of r1
  have i2 : IntsAre its2.toArray.toList ms := intsAre_of r2
  exact HT.lt_tupInts p1 p2 i1 i2 hu ⟨.bl (HT.lexLt ns ms), H, I, rfl, q⟩
/-- t + u, t not empty: u empty gives t itself -/
def rCatT (K : PySem.W.Frag) : R2 := fun x y H Q => ∃ a b xs ys, x = .ref a ∧ y = .ref b ∧ SqT K H a xs ∧ SqT K H b ys ∧ xs ≠ [] ∧ xs.length + ys.length ≤ sizeLine ∧
  (ys = [] → Q (.ref a) H) ∧ (ys ≠ [] → ∀ p, H p = none → Q (.ref p) (upd H p (.tup (xs ++ ys))))
theorem Vals.nil_iff {xs : List V} {us : List Value} (r : Vals xs us) : us = [] ↔ xs = [] := by
  cases r with
  | nil => simp
  | cons _ _ => simp
theorem op_catT : OpR X (binaryOp .Add) (rCatT X.K) := by
  intro pins s σ H x y v u Q I rx ry h
  obtain ⟨a, b, xs, ys, rfl, rfl, ha, hb, hx, hz, q1, q2⟩ := h
  cases rx
  cases ry
  obtain ⟨its, r1, p1, _⟩ := I.tuple ha
  obtain ⟨its2, r2, p2, _⟩ := I.tuple hb
  refine HT.cat_tup p1 p2 (fun z => hx (r1.nil_iff.mp z)) (fun z => ⟨.ref a, H, I, rfl, q1 (r2.nil_iff.mp z)⟩) (fun z => ?_) (by rw [← r1.length, ← r2.length]; exact hz)
  refine ⟨.ref s.heap.objs.size, _, I.laid (t' := s.toks) (o := .tup (xs ++ ys)) (fun b ob q => Heap.get?_push_of_some _ q) (Nat.le_refl _) ?_, rfl, q2 (fun w => z (r2.nil_iff.mpr w)) _ (I.hok.fresh (Nat.le_refl _))⟩
  exact ⟨by rw [List.length_append]; exact hz, _, r1.append r2, IsTup.new _ _⟩
/-- tuple(t) -/
theorem call_tupleT : CallR X (.type "tuple") (fun xs H Q => ∃ a ys, xs = [.ref a] ∧ SqT X.K H a ys ∧ Q (.ref a) H) := by
  intro pins s σ H xs us Q I r h
  obtain ⟨a, ys, rfl, ha, q⟩ := h
  obtain ⟨u, rfl, ru⟩ := vals1 r
  cases ru
  obtain ⟨its, _, p1, _⟩ := I.tuple ha
  exact call_tuple_same (items := its.toArray) p1 ⟨.ref a, H, I, rfl, q⟩
end
end L2

namespace L2
open PySem PySem.Spec PyProof.Rows

/-! ### places -/
/-- the place that an index of any sign means -/
def ixN (n : Nat) (i : Int) : Option Nat := if 0 ≤ i then (if i < n then some i.toNat else none) else if -(n : Int) ≤ i then some (i + n).toNat else none
def atI {α : Type} (xs : List α) (i : Int) : Option α := (ixN xs.length i).bind fun j => xs[j]?
theorem ixN_seq {n : Nat} {i : Int} {j : Nat} (h : ixN n i = some j) : seqIndex? i n = some j ∧ j < n ∧ -(n : Int) ≤ i ∧ i < n := by
  unfold ixN at h
  by_cases h0 : 0 ≤ i
  · rw [if_pos h0] at h
    by_cases h1 : i < n
    · rw [if_pos h1] at h
      have e : i.toNat = j := Option.some.inj h
      exact ⟨by rw [seqIndex_of h0 h1, e], by omega, by omega, h1⟩
    · rw [if_neg h1] at h; cases h
  · rw [if_neg h0] at h
    by_cases h1 : -(n : Int) ≤ i
    · rw [if_pos h1] at h
      have e : (i + n).toNat = j := Option.some.inj h
      exact ⟨by rw [seqIndex_neg (by omega) h1, e], by omega, h1, by omega⟩
    · rw [if_neg h1] at h; cases h
theorem atI_get {α : Type} {xs : List α} {i : Int} {v : α} (h : atI xs i = some v) : ∃ j, seqIndex? i xs.length = some j ∧ xs[j]? = some v ∧ j < xs.length ∧ -(xs.length : Int) ≤ i ∧ i < xs.length := by
  unfold atI at h
  cases e : ixN xs.length i with
  | none => rw [e] at h; cases h
  | some j =>
    rw [e] at h
    obtain ⟨h1, h2, h3, h4⟩ := ixN_seq e
    exact ⟨j, h1, h, h2, h3, h4⟩
theorem atI_nat {α : Type} {xs : List α} {j : Nat} {v : α} (h : xs[j]? = some v) : atI xs (j : Int) = some v := by
  have hj : j < xs.length := (List.getElem?_eq_some_iff.mp h).1
  have e : ixN xs.length (j : Int) = some j := by
    unfold ixN
    rw [if_pos (by omega), if_pos (by omega)]; simp
  unfold atI; rw [e]; exact h
theorem atI_last {α : Type} (xs : List α) (v : α) : atI (xs ++ [v]) (-1) = some v := by
  have hl : (xs ++ [v]).length = xs.length + 1 := by simp
  have e : ixN (xs ++ [v]).length (-1) = some xs.length := by
    unfold ixN
    rw [hl, if_neg (by decide), if_pos (by omega)]
    congr 1
    omega
  unfold atI
  rw [e]
  show (xs ++ [v])[xs.length]? = some v
  simp

/-! ### what may be subscripted -/
/-- what stands as an index of a plain subscript -/
def PlainIx (b : Expr) : Prop := ∀ o i, subscripted b false o i = operate [o, i] (getItem o i)
/-- a subscript by values -/
def IxR (X : Cx) (r : R2) : Prop :=
  ∀ (value slice : Expr) (pins : List (Addr × Obj)) (s : Shared) (σ : St) (H : Hp) (x y : V) (v u : Value) (Q : VK), Inv X pins σ H s → RelV x v → RelV y u → r x y H Q →
    subscripted slice false v u = operate [v, u] (getItem v u) → wpAny (model X.prog X.w) X.A (subscriptTail value slice v u) (EP X pins σ Q) X.xe s
/-- a call of a builtin's method by values: the receiver, the arguments -/
def MtR (X : Cx) (id : String) (r : V → List V → Hp → VK → Prop) : Prop :=
  ∀ (pins : List (Addr × Obj)) (s : Shared) (σ : St) (H : Hp) (x : V) (xs : List V) (v : Value) (us : List Value) (Q : VK), Inv X pins σ H s → RelV x v → Vals xs us → r x xs H Q →
    wpAny (model X.prog X.w) X.A (call (.builtin id) (v :: us)) (EP X pins σ Q) X.xe s
section
variable {X : Cx} {a b : Expr} {ta tb : TE} {pos : Pos}
theorem IxR.or {r r' : R2} (h : IxR X r) (h' : IxR X r') : IxR X (fun x y H Q => r x y H Q ∨ r' x y H Q) := by
  intro value slice pins s σ H x y v u Q I rx ry q hs
  rcases q with q | q
  · exact h value slice pins s σ H x y v u Q I rx ry q hs
  · exact h' value slice pins s σ H x y v u Q I rx ry q hs
theorem MtR.or {id : String} {r r' : V → List V → Hp → VK → Prop} (h : MtR X id r) (h' : MtR X id r') : MtR X id (fun x xs H Q => r x xs H Q ∨ r' x xs H Q) := by
  intro pins s σ H x xs v us Q I rx rs q
  rcases q with q | q
  · exact h pins s σ H x xs v us Q I rx rs q
  · exact h' pins s σ H x xs v us Q I rx rs q
/-- a[b] -/
theorem pe_ix {r : R2} (hr : IxR X r) (ha : PE X a ta) (hb : PE X b tb) (hs : PlainIx b) : PE X (.Subscript a b pos) (tOp r ta tb) := by
  intro pins s σ H Q I h
  exact Subscript_ (binT ha hb I h fun v u s2 x y H2 I2 rx ry q => hr a b pins s2 σ H2 x y v u Q I2 rx ry q (hs _ _))

def rIxL (K : PySem.W.Frag) : R2 := fun x y H Q => ∃ p xs i v, x = .ref p ∧ y = .int i ∧ SqL K H p xs ∧ atI xs i = some v ∧ Q v H
def rIxT (K : PySem.W.Frag) : R2 := fun x y H Q => ∃ p xs i v, x = .ref p ∧ y = .int i ∧ SqT K H p xs ∧ atI xs i = some v ∧ Q v H
def rIxS : R2 := fun x y H Q => ∃ z i c, x = .str z ∧ y = .int i ∧ z.length ≤ sizeLine ∧ atI z.cps.toList i = some c ∧ Q (.str ⟨#[c]⟩) H
theorem ix_list : IxR X (rIxL X.K) := by
  intro value slice pins s σ H x y v u Q I rx ry h hs
  obtain ⟨p, xs, i, z, rfl, rfl, hq, he, q⟩ := h
  cases rx
  obtain ⟨t, rfl⟩ := ry
  obtain ⟨its, r, pl, hz⟩ := I.list hq
  obtain ⟨j, h1, h2, h3, h4, h5⟩ := atI_get he
  obtain ⟨w, ew, rw'⟩ := r.get h2
  have hl := r.length
  have hn := line63
  have fin : EP X pins σ Q w s := ⟨z, H, I, rw', q⟩
  by_cases h0 : 0 ≤ i
  · have hj : i.toNat = j := by
      rw [seqIndex_of h0 h5] at h1
      exact Option.some.inj h1
    exact item_listR pl.isList h0 (by omega) (by rw [hj]; simpa using ew) fin hs
  · have hj : (i + (its.toArray.size : Int)).toNat = j := by
      rw [seqIndex_neg (by omega) h4] at h1
      rw [List.size_toArray, ← hl]
      exact Option.some.inj h1
    exact subscriptTail_builtinR (x := w) pl.isList.typeIs slot_list_getitem.lookup
      (wpAny_getItem_list_neg (Q := fun r s' => r = w ∧ EP X pins σ Q r s') pl.isList (by omega) (by rw [List.size_toArray] <;> omega) (by omega) (by rw [hj]; simpa using ew) ⟨rfl, fin⟩) hs
theorem ix_tup : IxR X (rIxT X.K) := by
  intro value slice pins s σ H x y v u Q I rx ry h hs
  obtain ⟨p, xs, i, z, rfl, rfl, hq, he, q⟩ := h
  cases rx
  obtain ⟨t, rfl⟩ := ry
  obtain ⟨its, r, pl, hz⟩ := I.tuple hq
  obtain ⟨j, h1, h2, h3, h4, h5⟩ := atI_get he
  obtain ⟨w, ew, rw'⟩ := r.get h2
  have hl := r.length
  have hn := line63
  have fin : EP X pins σ Q w s := ⟨z, H, I, rw', q⟩
  exact subscriptTail_builtinR (x := w) pl.typeIs slot_tuple_getitem.lookup
    (getItem_tuple (j := j) (Q := fun r s' => r = w ∧ EP X pins σ Q r s') pl (by omega) (by omega) (by rw [List.size_toArray, ← hl]; exact h1) (by simpa using ew) ⟨rfl, fin⟩) hs
theorem ix_str : IxR X rIxS := by
  intro value slice pins s σ H x y v u Q I rx ry h hs
  obtain ⟨z, i, c, rfl, rfl, hz, he, q⟩ := h
  obtain ⟨t, rfl⟩ := rx
  obtain ⟨t', rfl⟩ := ry
  obtain ⟨j, h1, h2, h3, h4, h5⟩ := atI_get he
  have hl : z.cps.toList.length = z.length := by simp [Str.length]
  rw [hl] at h1 h4 h5
  have hn := line63
  exact tail_any (typeIs_str s z t) slot_str_getitem.lookup (getItem_str (c := c) (by
    have e1 : decide (i < -(2 ^ 63 : Int)) = false := decide_eq_false (by omega)
    have e2 : decide (i ≥ 2 ^ 63) = false := decide_eq_false (by omega)
    rw [e1, e2, Bool.or_false]) (by rw [h1]; simpa using h2) ⟨.str ⟨#[c]⟩, H, I.tok _, ⟨_, rfl⟩, q⟩) hs
/-- list, tuple or str -/
def rIx (K : PySem.W.Frag) : R2 := fun x y H Q => rIxL K x y H Q ∨ rIxT K x y H Q ∨ rIxS x y H Q
theorem ix_seq : IxR X (rIx X.K) := ix_list.or (ix_tup.or ix_str)

/-! ### xs[i] = v, any sign -/
/-- the list's object behind a store -/
theorem mapSeq_set (its : List Value) (n j : Nat) (u : Value) : Obj.mapSeq (·.setIfInBounds j u) { cls := .type "list", data := .seq its.toArray n } = { cls := .type "list", data := .seq (its.set j u).toArray n } := by
  simp [Obj.mapSeq]
theorem Inv.lst {pins : List (Addr × Obj)} {σ : St} {H : Hp} {s : Shared} {p : Addr} {xs : List V} (I : Inv X pins σ H s) (h : H p = some (.lst xs)) :
    ∃ (its : List Value) (n : Nat), Vals xs its ∧ s.heap.get? p = some { cls := .type "list", data := .seq its.toArray n } ∧ xs.length ≤ sizeLine := by
  obtain ⟨z, its, n, r, e⟩ := I.hok p _ h
  exact ⟨its, n, r, e, z⟩
/-- the list at p is written by an update of its object -/
theorem Inv.lstUpd {pins : List (Addr × Obj)} {σ : St} {H : Hp} {s : Shared} {p : Addr} {xs ys : List V} {its its' : List Value} {n n' : Nat} {f : Obj → Obj} (I : Inv X pins σ H s) (h : H p = some (.lst xs))
    (ho : s.heap.get? p = some { cls := .type "list", data := .seq its.toArray n }) (hf : f { cls := .type "list", data := .seq its.toArray n } = { cls := .type "list", data := .seq its'.toArray n' }) (r : Vals ys its') (hz : ys.length ≤ sizeLine) (t : Nat) :
    Inv X pins σ (upd H p (.lst ys)) { s with heap := s.heap.update p f, toks := t } := by
  have e : (s.heap.update p f).get? p = some { cls := .type "list", data := .seq its'.toArray n' } := by
    rw [Heap.get?_update_self f ho (by rw [hf] <;> rfl), hf]
  refine I.write (x := p) (e := p) (by rw [h]; trivial) (.inl rfl) (fun b u hb q => (Heap.get?_update_other _ _ (Ne.symm hb)).trans q) ⟨_, e⟩ ?_
  exact ⟨hz, its', n', r, e⟩
def rSetL : V → V → V → Hp → (Hp → Prop) → Prop := fun o i v H Q => ∃ p xs k j, o = .ref p ∧ i = .int k ∧ H p = some (.lst xs) ∧ ixN xs.length k = some j ∧ Q (upd H p (.lst (xs.set j v)))
theorem set_list : PSet X rSetL := by
  intro pins s σ H o i v ov iv u Q I ro ri rv h
  obtain ⟨p, xs, k, j, rfl, rfl, hp, hj, q⟩ := h
  cases ro
  obtain ⟨t, rfl⟩ := ri
  obtain ⟨its, n, r, ho, hz⟩ := I.lst hp
  obtain ⟨h1, h2, h3, h4⟩ := ixN_seq hj
  have hl := r.length
  have hn := line63
  have I' : Inv X pins σ (upd H p (.lst (xs.set j v))) { s with heap := s.heap.update p (Obj.mapSeq (·.setIfInBounds j u)) } :=
    I.lstUpd hp ho (mapSeq_set its n j u) (r.set rv j) (by rw [List.length_set]; exact hz) s.toks
  by_cases h0 : 0 ≤ k
  · have hk : k.toNat = j := by
      rw [seqIndex_of h0 h4] at h1
      exact Option.some.inj h1
    exact PySem.W.ki_setAt ho h0 (by omega) (by rw [List.size_toArray, ← hl]; exact h4) (by rw [hk]; exact ⟨_, I', q⟩)
  · have hk : (k + (its.toArray.size : Int)).toNat = j := by
      rw [seqIndex_neg (by omega) h3] at h1
      rw [List.size_toArray, ← hl]
      exact Option.some.inj h1
    exact PySem.W.ki_setBack ho (by omega) (by rw [List.size_toArray, ← hl]; exact h3) (by omega) (by rw [hk]; exact ⟨_, I', q⟩)

/-! ### slices -/
theorem slice_bounds (lo hi : Option Int) (n : Nat) : (sliceBounds lo hi none n).1 = ((HT.sIx n 0 lo : Nat) : Int) ∧ (sliceBounds lo hi none n).2.1 = ((HT.sIx n n hi : Nat) : Int) ∧ (sliceBounds lo hi none n).2.2 = 1 := by
  refine ⟨?_, ?_, rfl⟩
  · cases lo with
    | none => simp [sliceBounds, HT.sIx]
    | some i =>
      simp only [sliceBounds, HT.sIx, Option.getD_none, show (1 : Int) > 0 by decide, if_true]
      by_cases h : i < 0
      · simp only [h, if_true] <;> omega
      · simp only [h, if_false] <;> omega
  · cases hi with
    | none => simp [sliceBounds, HT.sIx]
    | some i =>
      simp only [sliceBounds, HT.sIx, Option.getD_none, show (1 : Int) > 0 by decide, if_true]
      by_cases h : i < 0
      · simp only [h, if_true] <;> omega
      · simp only [h, if_false] <;> omega
theorem slicePick_cut (its : List Value) (lo hi : Option Int) : slicePick its.toArray lo hi none = ((its.drop (HT.sIx its.length 0 lo)).take (HT.sIx its.length its.length hi - HT.sIx its.length 0 lo)).toArray := by
  obtain ⟨h1, h2, h3⟩ := slice_bounds lo hi its.toArray.size
  unfold slicePick
  rw [h1, h2, h3]
  simp only [sliceRange_one, pick_run, List.size_toArray] <;> rfl
/-- xs[lo:hi] of a list: a new list -/
def rSlL (K : PySem.W.Frag) : V → Option Int → Option Int → Hp → VK → Prop := fun x lo hi H Q => ∃ a xs, x = .ref a ∧ SqL K H a xs ∧ ∀ p, H p = none → Q (.ref p) (upd H p (.lst (cutV xs lo hi)))
theorem sl_list : SlR X (rSlL X.K) := by
  intro pins s σ H x v vl vu lo hi sl Q I rx hs pl pu h
  obtain ⟨a, xs, rfl, hx, q⟩ := h
  cases rx
  obtain ⟨its, r, ht, hz⟩ := I.list hx
  have hlen := r.length
  refine ⟨"list", _, slot_list_getitem.lookup, ht.isList.typeIs, ?_⟩
  refine wpAny_getItem_list_slice ht.isList hs pl pu .none (by simp) ?_ (by rw [List.size_toArray] <;> omega)
  rw [slicePick_cut, ← hlen]
  refine ⟨.ref s.heap.objs.size, _, I.laid (t' := s.toks) (o := .lst (cutV xs lo hi)) (fun b ob q => Heap.get?_push_of_some _ q) (Nat.le_refl _) ?_, rfl, q _ (I.hok.fresh (Nat.le_refl _))⟩
  exact ⟨Nat.le_trans (cutV_length xs lo hi) hz, _, 0, (r.drop (HT.sIx xs.length 0 lo)).take (HT.sIx xs.length xs.length hi - HT.sIx xs.length 0 lo), Heap.get?_push_size _ rfl⟩

/-! ### in, not in: flat items -/
def flatV : V → Bool
  | .non => true
  | .bl _ => true
  | .int _ => true
  | .str _ => true
  | _ => false
/-- == of flat values -/
def eqV : V → V → Bool
  | .non, .non => true
  | .bl a, .bl b => a == b
  | .bl a, .int b => (if a then 1 else 0) == b
  | .int a, .bl b => a == (if b then 1 else 0)
  | .int a, .int b => a == b
  | .str a, .str b => a == b
  | _, _ => false
theorem eqAt_V {A : Around} {s : Shared} {y x : V} {u v : Value} (ry : RelV y u) (rx : RelV x v) (fy : flatV y = true) (fx : flatV x = true) : SeqAt.EqAt A s u v (eqV y x) := by
  cases y with
  | non =>
    cases ry
    cases x with
    | non => cases rx; exact SeqAt.EqAt.same _
    | bl b => cases rx; exact SeqAt.EqAt.none_bool b
    | int b => obtain ⟨t, rfl⟩ := rx; exact SeqAt.EqAt.none_int b t
    | str b => obtain ⟨t, rfl⟩ := rx; exact SeqAt.EqAt.none_str b t
    | _ => exact absurd (show false = true from fx) Bool.false_ne_true
  | bl a =>
    cases ry
    cases x with
    | non => cases rx; exact SeqAt.EqAt.bool_none a
    | bl b => cases rx; exact SeqAt.EqAt.bool_bool a b
    | int b => obtain ⟨t, rfl⟩ := rx; exact SeqAt.EqAt.bool_int a b t
    | str b => obtain ⟨t, rfl⟩ := rx; exact SeqAt.EqAt.bool_str a b t
    | _ => exact absurd (show false = true from fx) Bool.false_ne_true
  | int a =>
    obtain ⟨t', rfl⟩ := ry
    cases x with
    | non => cases rx; exact SeqAt.EqAt.int_none a t'
    | bl b => cases rx; exact SeqAt.EqAt.int_bool a t' b
    | int b => obtain ⟨t, rfl⟩ := rx; exact SeqAt.EqAt.int_int a t' b t
    | str b => obtain ⟨t, rfl⟩ := rx; exact SeqAt.EqAt.int_str a t' b t
    | _ => exact absurd (show false = true from fx) Bool.false_ne_true
  | str a =>
    obtain ⟨t', rfl⟩ := ry
    cases x with
    | non => cases rx; exact SeqAt.EqAt.str_none a t'
    | bl b => cases rx; exact SeqAt.EqAt.str_bool a t' b
    | int b => obtain ⟨t, rfl⟩ := rx; exact SeqAt.EqAt.str_int a t' b t
    | str b => obtain ⟨t, rfl⟩ := rx; exact SeqAt.EqAt.str_str a t' b t
    | _ => exact absurd (show false = true from fx) Bool.false_ne_true
  | _ => exact absurd (show false = true from fy) Bool.false_ne_true
/-- the items' answers, read off the values (a value's own answer does not lean on its token) -/
def eqU (x : V) (u : Value) : Bool := match u with
  | .none => eqV .non x
  | .bool b => eqV (.bl b) x
  | .int i _ => eqV (.int i) x
  | .str z _ => eqV (.str z) x
  | _ => false
theorem eqU_of {x y : V} {u : Value} (r : RelV y u) (f : flatV y = true) : eqU x u = eqV y x := by
  cases y with
  | non => cases r; rfl
  | bl b => cases r; rfl
  | int i => obtain ⟨t, rfl⟩ := r; rfl
  | str z => obtain ⟨t, rfl⟩ := r; rfl
  | _ => exact absurd (show false = true from f) Bool.false_ne_true
theorem any_eqU {x : V} : ∀ {xs : List V} {us : List Value}, Vals xs us → xs.all flatV = true → us.any (eqU x) = xs.any fun y => eqV y x
  | _, _, .nil, _ => rfl
  | y :: xs, u :: us, .cons r t, f => by
    rw [List.all_cons, Bool.and_eq_true] at f
    rw [List.any_cons, List.any_cons, eqU_of r f.1, any_eqU t f.2]
theorem mem_eqAt {A : Around} {s : Shared} {x : V} {v : Value} (rx : RelV x v) (fx : flatV x = true) : ∀ {xs : List V} {us : List Value}, Vals xs us → xs.all flatV = true → ∀ u ∈ us, SeqAt.EqAt A s u v (eqU x u)
  | _, _, .nil, _ => fun u hu => by cases hu
  | y :: xs, u :: us, .cons r t, f => fun u' hu => by
    rw [List.all_cons, Bool.and_eq_true] at f
    rcases List.mem_cons.mp hu with rfl | hu
    · rw [eqU_of r f.1]; exact eqAt_V r rx f.1 fx
    · exact mem_eqAt rx fx t f.2 u' hu
def inV (x : V) (xs : List V) : Bool := xs.any fun y => eqV y x
/-- x in a list or tuple of flat items -/
def rIn (K : PySem.W.Frag) (neg : Bool) : R2 := fun x y H Q => ∃ p xs, y = .ref p ∧ (SqL K H p xs ∨ SqT K H p xs) ∧ flatV x = true ∧ xs.all flatV = true ∧ Q (.bl (if neg then !inV x xs else inV x xs)) H
theorem op_in_seq : OpR X (compareOp .In) (rIn X.K false) := by
  intro pins s σ H x y v u Q I rx ry h
  obtain ⟨p, xs, rfl, hq, fx, fs, q⟩ := h
  cases ry
  rcases hq with hq | hq
  · obtain ⟨its, r, pl, hz⟩ := I.list hq
    refine SeqAt.in_listAt (eqU x) pl.isList (fun w hw => mem_eqAt rx fx r fs w (by simpa using hw)) ⟨.bl _, H, I, rfl, ?_⟩
    rw [show its.toArray.any (eqU x) = its.any (eqU x) by simp, any_eqU r fs]
    exact q
  · obtain ⟨its, r, pl, hz⟩ := I.tuple hq
    refine SeqAt.in_tupleAt (eqU x) pl (fun w hw => mem_eqAt rx fx r fs w (by simpa using hw)) ⟨.bl _, H, I, rfl, ?_⟩
    rw [show its.toArray.any (eqU x) = its.any (eqU x) by simp, any_eqU r fs]
    exact q
theorem op_notIn_seq : OpR X (compareOp .NotIn) (rIn X.K true) := by
  intro pins s σ H x y v u Q I rx ry h
  obtain ⟨p, xs, rfl, hq, fx, fs, q⟩ := h
  cases ry
  rcases hq with hq | hq
  · obtain ⟨its, r, pl, hz⟩ := I.list hq
    refine SeqAt.notIn_listAt (eqU x) pl.isList (fun w hw => mem_eqAt rx fx r fs w (by simpa using hw)) ⟨.bl _, H, I, rfl, ?_⟩
    rw [show its.toArray.any (eqU x) = its.any (eqU x) by simp, any_eqU r fs]
    exact q
  · obtain ⟨its, r, pl, hz⟩ := I.tuple hq
    refine SeqAt.notIn_tupleAt (eqU x) pl (fun w hw => mem_eqAt rx fx r fs w (by simpa using hw)) ⟨.bl _, H, I, rfl, ?_⟩
    rw [show its.toArray.any (eqU x) = its.any (eqU x) by simp, any_eqU r fs]
    exact q
theorem op_notIn_str : OpR X (compareOp .NotIn) (fun x y H Q => ∃ i j, x = .str i ∧ y = .str j ∧ Q (.bl (!(!(Builtin.Str.occurrences j i 0 j.length 1).isEmpty))) H) := by
  intro pins s σ H x y v u Q I rx ry h
  obtain ⟨i, j, rfl, rfl, q⟩ := h
  obtain ⟨t, rfl⟩ := rx
  obtain ⟨t', rfl⟩ := ry
  exact notIn_str ⟨.bl _, H, I, rfl, q⟩

/-! ### len, list(x), tuple(x) of any list or tuple that is read -/
theorem call_len_seq : CallR X (.builtin "len") (fun xs H Q => ∃ p ys, xs = [.ref p] ∧ (SqL X.K H p ys ∨ SqT X.K H p ys) ∧ Q (.int ys.length) H) := by
  intro pins s σ H xs us Q I r h
  obtain ⟨p, ys, rfl, hq, q⟩ := h
  obtain ⟨u, rfl, rx⟩ := vals1 r
  cases rx
  have hn := line63
  rcases hq with hq | hq
  · obtain ⟨its, r', pl, hz⟩ := I.list hq
    have hlen := r'.length
    exact Calls.call_len_list pl.isList (by simp only [List.size_toArray] <;> omega) ⟨.int ys.length, H, I.tok _, ⟨s.toks + 1, by rw [List.size_toArray, hlen]⟩, q⟩
  · obtain ⟨its, r', pl, hz⟩ := I.tuple hq
    have hlen := r'.length
    exact len_tuple pl (by simp only [List.size_toArray] <;> omega) ⟨.int ys.length, H, I.tok _, ⟨s.toks + 1, by rw [List.size_toArray, hlen]⟩, q⟩
theorem call_len_str : CallR X (.builtin "len") (fun xs H Q => ∃ z, xs = [.str z] ∧ z.length ≤ sizeLine ∧ Q (.int z.length) H) := by
  intro pins s σ H xs us Q I r h
  obtain ⟨z, rfl, hz, q⟩ := h
  obtain ⟨u, rfl, t, rfl⟩ := vals1 r
  have hn := line63
  exact len_str (by omega) ⟨.int z.length, H, I.tok _, ⟨_, rfl⟩, q⟩
theorem CallR.or {f : Value} {r r' : List V → Hp → VK → Prop} (h : CallR X f r) (h' : CallR X f r') : CallR X f (fun xs H Q => r xs H Q ∨ r' xs H Q) := by
  intro pins s σ H xs us Q I rs q
  rcases q with q | q
  · exact h pins s σ H xs us Q I rs q
  · exact h' pins s σ H xs us Q I rs q
theorem call_list_of : CallR X (.type "list") (fun xs H Q => ∃ p ys, xs = [.ref p] ∧ (SqL X.K H p ys ∨ SqT X.K H p ys) ∧ ∀ l, H l = none → Q (.ref l) (upd H l (.lst ys))) := by
  intro pins s σ H xs us Q I r h
  obtain ⟨p, ys, rfl, hq, q⟩ := h
  obtain ⟨u, rfl, rx⟩ := vals1 r
  cases rx
  have fin : ∀ (its : List Value), Vals ys its → ys.length ≤ sizeLine → ∀ (h' : Heap) (c' : Nat), (∀ b o', s.heap.get? b = some o' → h'.get? b = some o') →
      h'.get? s.heap.objs.size = some { cls := .type "list", dict := none, data := .seq its.toArray c', slots := #[] } → EP X pins σ Q (.ref s.heap.objs.size) { s with heap := h' } := fun its r' hz h' c' kp e =>
    ⟨.ref s.heap.objs.size, _, I.laid (t' := s.toks) kp (Nat.le_refl _) (show ObjOk X.prog X.w _ h' _ (.lst ys) from ⟨hz, its, c', r', e⟩), rfl, q _ (I.hok.fresh (Nat.le_refl _))⟩
  rcases hq with hq | hq
  · obtain ⟨its, r', pl, hz⟩ := I.list hq
    have hlen := r'.length
    obtain ⟨o, ho, hc, n, hd⟩ := pl.isList
    exact call_list_seq p (.inl rfl) ho hc hd (fun h' c' kp e => fin its r' hz h' c' kp e) (by simp only [List.size_toArray] <;> omega)
  · obtain ⟨its, r', pl, hz⟩ := I.tuple hq
    have hlen := r'.length
    obtain ⟨o, ho, hc, n, hd⟩ := pl
    exact call_list_seq p (.inr rfl) ho hc hd (fun h' c' kp e => fin its r' hz h' c' kp e) (by simp only [List.size_toArray] <;> omega)
theorem call_tuple_of : CallR X (.type "tuple") (fun xs H Q => ∃ p ys, xs = [.ref p] ∧ ((SqL X.K H p ys ∧ ∀ l, H l = none → Q (.ref l) (upd H l (.tup ys))) ∨ (SqT X.K H p ys ∧ Q (.ref p) H))) := by
  intro pins s σ H xs us Q I r h
  obtain ⟨p, ys, rfl, h⟩ := h
  obtain ⟨u, rfl, rx⟩ := vals1 r
  cases rx
  rcases h with ⟨hq, q⟩ | ⟨hq, q⟩
  · obtain ⟨its, r', pl, hz⟩ := I.list hq
    have hlen := r'.length
    refine call_tuple_list pl.isList (fun h' kp => ?_) (by simp only [List.size_toArray] <;> omega)
    have I1 : Inv X pins σ H { s with heap := h' } := I.kept (t' := s.toks) kp
    have I2 : Inv X pins σ (upd H h'.objs.size (.tup ys)) { s with heap := h'.push { cls := .type "tuple", data := .seq its.toArray } } :=
      I1.laid (t' := s.toks) (fun b o e => Heap.get?_push_of_some _ e) (Nat.le_refl _) (show ObjOk X.prog X.w _ _ _ (.tup ys) from ⟨hz, its, r', IsTup.new _ _⟩)
    exact ⟨.ref h'.objs.size, _, I2, rfl, q _ (I1.hok.fresh (Nat.le_refl _))⟩
  · obtain ⟨its, r', pl, hz⟩ := I.tuple hq
    exact call_tuple_same pl ⟨.ref p, H, I, rfl, q⟩

/-! ### the call of a builtin's method: o.m(..) -/
/-- the value is of that builtin type -/
def tyV (K : PySem.W.Frag) (T : String) (x : V) (H : Hp) : Prop := match x with
  | .str _ => T = "str"
  | .int _ => T = "int"
  | .ref p => (T = "list" ∧ ∃ xs, SqL K H p xs) ∨ (T = "tuple" ∧ ∃ o, K.lookup p = some o ∧ o.cls = .type "tuple" ∧ o.dict = none) ∨
      (T = "dict" ∧ ((∃ kvs, H p = some (.dK kvs)) ∨ ∃ kvs, H p = some (.dT kvs))) ∨ (T = "set" ∧ ∃ S n, H p = some (.set S n))
  | _ => False
theorem tyV_is {pins : List (Addr × Obj)} {σ : St} {H : Hp} {s : Shared} {T : String} {x : V} {v : Value} (I : Inv X pins σ H s) (r : RelV x v) (ty : tyV X.K T x H) :
    s.TypeIs v T ∧ ∀ a, v = .ref a → ∃ ob, s.heap.get? a = some ob ∧ ob.dict = none := by
  cases x with
  | str z =>
    obtain ⟨t, rfl⟩ := r
    cases (show T = "str" from ty)
    exact ⟨typeIs_str s z t, fun _ e => nomatch e⟩
  | int i =>
    obtain ⟨t, rfl⟩ := r
    cases (show T = "int" from ty)
    exact ⟨typeIs_int s i t, fun _ e => nomatch e⟩
  | ref p =>
    cases r
    rcases ty with ⟨rfl, xs, hq⟩ | ⟨rfl, o, hk, hc, hd⟩ | ⟨rfl, hk⟩ | ⟨rfl, S, n, hk⟩
    · obtain ⟨its, _, pl, _⟩ := I.list hq
      refine ⟨pl.isList.typeIs, fun a e => ?_⟩
      cases e
      obtain ⟨o, n, e, c, hd, _⟩ := pl
      exact ⟨o, e, hd⟩
    · refine ⟨⟨o, I.kIn p o hk, hc⟩, fun a e => ?_⟩
      cases e
      exact ⟨o, I.kIn _ o hk, hd⟩
    · have z : ∃ o, s.heap.get? p = some o ∧ o.ExactDict := by
        rcases hk with ⟨kvs, hk⟩ | ⟨kvs, hk⟩
        · obtain ⟨_, _, _, _, o, _, _, e, ex, _⟩ := I.hok p _ hk
          exact ⟨o, e, ex⟩
        · obtain ⟨_, _, _, _, o, _, _, e, ex, _⟩ := I.hok p _ hk
          exact ⟨o, e, ex⟩
      obtain ⟨o, e, ex⟩ := z
      refine ⟨⟨o, e, ex.1⟩, fun a e2 => ?_⟩
      cases e2
      exact ⟨o, e, ex.2.1⟩
    · obtain ⟨o, _, _, _, e, ex, _⟩ := I.hok p _ hk
      refine ⟨⟨o, e, ex.1⟩, fun a e2 => ?_⟩
      cases e2
      exact ⟨o, e, ex.2.1⟩
  | _ => exact False.elim ty
def tBM0 (K : PySem.W.Frag) (T : String) (r : V → List V → Hp → VK → Prop) (to : TE) : TE := fun σ H Q => to σ H fun x H1 => tyV K T x H1 ∧ r x [] H1 Q
def tBM (K : PySem.W.Frag) (T : String) (r : V → List V → Hp → VK → Prop) (to : TE) (t : TA) : TE := fun σ H Q => to σ H fun x H1 => tyV K T x H1 ∧ t σ H1 fun xs H2 => r x xs H2 Q
variable {o e : Expr} {es : List Expr} {to : TE} {t : TA} {name : Str} {apos cpos : Pos} {T id : String} {r : V → List V → Hp → VK → Prop}
theorem pe_bm0 (pa : PlainAttrs T) (slot : Slot T name id) (hty : typeOf (.builtin id) = pure (.type "method_descriptor")) (hm : MtR X id r) (ho : PE X o to)
    (hbase : attributeBase o name X.env (eval o X.env) = eval o X.env := by rfl) (hline : (apos.endLine == cpos.line) = true := by rfl) : PE X (.Call (.Attribute o name apos) [] [] cpos) (tBM0 X.K T r to) := by
  intro pins s σ H Q I h
  refine wpAny_Call_method0_late hbase hline (thn (ho pins s σ H _ I h) fun v s1 ⟨x, H1, I1, r1, ty, q1⟩ => ?_)
  obtain ⟨h1, h2⟩ := tyV_is I1 r1 ty
  exact ⟨T, id, pa, slot, hty, h1, h2, Calls.callWith_builtin rfl (PySem.evalArgs_none (hm pins s1 σ H1 x [] v [] Q I1 r1 .nil q1))⟩
theorem pe_bm (pa : PlainAttrs T) (slot : Slot T name id) (hty : typeOf (.builtin id) = pure (.type "method_descriptor")) (hm : MtR X id r) (ho : PE X o to) (ha : PA X (e :: es) t)
    (hbase : attributeBase o name X.env (eval o X.env) = eval o X.env := by rfl)
    (hfew : ((backTo cpos (starEach (e :: es) X.env)).all (fun x => !x.1) && (backToKw cpos (keywordEach [] X.env)).all (fun x => x.1.isSome)
      && decide ((e :: es).length + ([] : List Keyword).length + (if ([] : List Keyword).isEmpty then 0 else 1) < 30)) = true := by rfl)
    (hline : (apos.endLine == cpos.line) = true := by rfl) (hs : starEach (e :: es) X.env = (false, eval e X.env) :: starEach es X.env := by rfl) (hplain : (backTo cpos (starEach es X.env)).any (·.1) = false := by rfl) :
    PE X (.Call (.Attribute o name apos) (e :: es) [] cpos) (tBM X.K T r to t) := by
  intro pins s σ H Q I h
  refine wpAny_Call_method_late hbase hfew hline rfl (thn (ho pins s σ H _ I h) fun v s1 ⟨x, H1, I1, r1, ty, q1⟩ => ?_)
  obtain ⟨h1, h2⟩ := tyV_is I1 r1 ty
  refine ⟨T, id, pa, slot, hty, h1, h2, ?_⟩
  have hA := ha cpos pins s1 σ H1 _ I1 q1
  rw [hs] at hA ⊢
  refine Calls.callWith_builtin (by show (false || (backTo cpos (starEach es X.env)).any (·.1)) = false; rw [hplain] <;> rfl) (Calls.evalArgs_plain ?_)
  exact thn hA fun us s2 ⟨vs, H2, I2, r2, q2⟩ => hm pins s2 σ H2 x vs v us Q I2 r1 r2 q2
/- xs.append(e), list.index on a module's tuple .. are MtR facts of 06m -/
end
end L2

namespace L2
open PySem PySem.Spec PyProof.Rows

def MtM (X : Cx) (id : String) (r : V → List V → Hp → VK → Prop) : Prop :=
  ∀ (pins : List (Addr × Obj)) (s : Shared) (σ : St) (H : Hp) (x : V) (xs : List V) (v : Value) (us : List Value) (Q : VK), Inv X pins σ H s → RelV x v → Vals xs us → r x xs H Q →
    wpAny (model X.prog X.w) X.A (call (.builtin id) (v :: us)) (EP X pins σ Q) X.xe s

/-! ### lists of values -/
theorem Vals.one : ∀ {x : V} {us : List Value}, Vals [x] us → ∃ u, us = [u] ∧ RelV x u
  | _, _, .cons r .nil => ⟨_, rfl, r⟩
theorem Vals.two : ∀ {x y : V} {us : List Value}, Vals [x, y] us → ∃ u v, us = [u, v] ∧ RelV x u ∧ RelV y v
  | _, _, _, .cons r (.cons q .nil) => ⟨_, _, rfl, r, q⟩
theorem Vals.zero : ∀ {us : List Value}, Vals [] us → us = []
  | _, .nil => rfl
theorem Vals.dropLast {xs : List V} {us : List Value} (h : Vals xs us) : Vals xs.dropLast us.dropLast := by
  induction h with
  | nil => exact .nil
  | cons r t ih =>
    cases t with
    | nil => exact .nil
    | cons q t' => exact .cons r ih
theorem Vals.eraseIdx : ∀ {xs : List V} {us : List Value} (i : Nat), Vals xs us → Vals (xs.eraseIdx i) (us.eraseIdx i)
  | _, _, _, .nil => .nil
  | _, _, 0, .cons _ t => t
  | _, _, i + 1, .cons r t => .cons r (Vals.eraseIdx i t)
theorem Vals.reverse {xs : List V} {us : List Value} (h : Vals xs us) : Vals xs.reverse us.reverse := by
  induction h with
  | nil => exact .nil
  | cons r t ih => rw [List.reverse_cons, List.reverse_cons]; exact Vals.append ih (.cons r .nil)
theorem Vals.rep {xs : List V} {us : List Value} (h : Vals xs us) : ∀ k : Nat, Vals (List.replicate k xs).flatten (List.replicate k us).flatten
  | 0 => .nil
  | k + 1 => by
    rw [List.replicate_succ, List.replicate_succ, List.flatten_cons, List.flatten_cons]
    exact Vals.append h (Vals.rep h k)
theorem erase_last {α : Type} (l : List α) : l.eraseIdx (l.length - 1) = l.dropLast := by
  induction l with
  | nil => rfl
  | cons a r ih =>
    cases r with
    | nil => rfl
    | cons b r =>
      have e : (a :: b :: r).length - 1 = ((b :: r).length - 1) + 1 := by
        have h1 : (a :: b :: r).length = r.length + 2 := rfl
        have h2 : (b :: r).length = r.length + 1 := rfl
        omega
      rw [e, List.eraseIdx_cons_succ, ih]
      all_goals rfl
theorem len_erase {α : Type} : ∀ (l : List α) (i : Nat), (l.eraseIdx i).length ≤ l.length
  | [], _ => Nat.le_refl _
  | _ :: _, 0 => Nat.le_succ _
  | _ :: r, i + 1 => Nat.succ_le_succ (len_erase r i)
theorem foldl_rep (its : List Value) : ∀ (k : Nat) (acc : List Value),
    List.foldl (fun x1 x2 => x1 ++ x2) acc.toArray (List.replicate k its.toArray) = (acc ++ (List.replicate k its).flatten).toArray
  | 0, acc => by simp
  | k + 1, acc => by
    have e : acc.toArray ++ its.toArray = (acc ++ its).toArray := by simp
    have e2 : (acc ++ its) ++ (List.replicate k its).flatten = acc ++ (List.replicate (k + 1) its).flatten := by
      rw [List.replicate_succ, List.flatten_cons, List.append_assoc]
    rw [← e2, ← foldl_rep its k (acc ++ its), ← e, List.replicate_succ, List.foldl_cons]

section
variable {X : Cx} {pins : List (Addr × Obj)} {σ : St} {H : Hp} {s : Shared} {l b : Addr} {xs ys zs : List V}

/-! ### the two steps: a tracked list is rewritten, a new list is laid -/
theorem Inv.lset {its its' : List Value} {n : Nat} {f : Array Value → Array Value} {t' : Nat} (I : Inv X pins σ H s) (hH : H l = some (.lst xs))
    (e : s.heap.get? l = some { cls := .type "list", data := .seq its.toArray n }) (hf : f its.toArray = its'.toArray) (hv : Vals ys its') (hz : ys.length ≤ sizeLine) :
    Inv X pins σ (upd H l (.lst ys)) { s with heap := s.heap.update l (Obj.mapSeq f), toks := t' } := by
  have q := PySem.IsL.update e f
  rw [hf] at q
  refine I.write (x := l) (e := l) (by rw [hH]; exact trivial) (.inl rfl) (fun b' u hb hu => (Heap.get?_update_other s.heap (Obj.mapSeq f) (Ne.symm hb)).trans hu) ⟨_, q⟩ ?_
  exact ⟨hz, its', _, hv, q⟩
theorem Inv.lnew {its : List Value} {t' : Nat} (I : Inv X pins σ H s) (hv : Vals ys its) (hz : ys.length ≤ sizeLine) :
    Inv X pins σ (upd H s.heap.objs.size (.lst ys)) { s with heap := s.heap.push { cls := .type "list", data := .seq its.toArray }, toks := t' } :=
  I.laid (fun _ _ q => Heap.get?_push_of_some _ q) (Nat.le_refl _) ⟨hz, its, 0, hv, Heap.get?_push_size _ rfl⟩
theorem Inv.fresh (I : Inv X pins σ H s) : H s.heap.objs.size = none := I.hok.fresh (Nat.le_refl _)
theorem Inv.lstM (I : Inv X pins σ H s) (hH : H l = some (.lst xs)) : xs.length ≤ sizeLine ∧ ∃ (its : List Value) (n : Nat), Vals xs its ∧ xs.length = its.length ∧ s.heap.get? l = some { cls := .type "list", data := .seq its.toArray n } := by
  obtain ⟨z, its, n, r, e⟩ := I.hok l _ hH
  exact ⟨z, its, n, r, r.length, e⟩

theorem notLongL {n : Nat} (h : n ≤ sizeLine) : Builtin.List.listTooLong n = false := by
  unfold Builtin.List.listTooLong
  exact decide_eq_false (by omega)
end

section
variable {X : Cx}

/-! ### methods -/
def rAppend : V → List V → Hp → VK → Prop := fun x vs H Q => ∃ l xs y, x = .ref l ∧ vs = [y] ∧ H l = some (.lst xs) ∧ xs.length < sizeLine ∧ Q .non (upd H l (.lst (xs ++ [y])))
theorem mt_append : MtM X "list.append" rAppend := by
  intro pins s σ H x vs v us Q I rx rv h
  obtain ⟨l, xs, y, rfl, rfl, hH, hz, q⟩ := h
  cases rx
  obtain ⟨u, rfl, ru⟩ := rv.one
  obtain ⟨z, its, n, r, hl, e⟩ := I.lstM hH
  refine call_meets F.slot_list_append ⟨_, e, rfl⟩ F.entry_list_append (F.args_list_append_2 _ _) (PySem.list_append l its.toArray n u (by rw [List.size_toArray]; omega)) ⟨e, ?_⟩
  refine ⟨.non, _, I.lset (its' := its ++ [u]) hH e (by simp) (r.append (.cons ru .nil)) ?_, rfl, q⟩
  rw [List.length_append, List.length_singleton]
  omega

def rExtend : V → List V → Hp → VK → Prop := fun x vs H Q => ∃ l b xs zs, x = .ref l ∧ vs = [.ref b] ∧ H l = some (.lst xs) ∧ H b = some (.lst zs) ∧ xs.length + zs.length ≤ sizeLine ∧ Q .non (upd H l (.lst (xs ++ zs)))
theorem mt_extend : MtM X "list.extend" rExtend := by
  intro pins s σ H x vs v us Q I rx rv h
  obtain ⟨l, b, xs, zs, rfl, rfl, hH, hB, hz, q⟩ := h
  cases rx
  obtain ⟨u, rfl, ru⟩ := rv.one
  cases ru
  obtain ⟨z, its, n, r, hl, e⟩ := I.lstM hH
  obtain ⟨z2, its2, n2, r2, hl2, e2⟩ := I.lstM hB
  have hsz : its.toArray.size + its2.toArray.size ≤ sizeLine := by rw [List.size_toArray, List.size_toArray]; omega
  have hlong : ¬ (!its.toArray.isEmpty && Builtin.List.listTooLong (its.toArray.size + its2.toArray.size)) = true := by
    rw [notLongL hsz, Bool.and_false]
    exact Bool.false_ne_true
  refine call_meets F.slot_list_extend ⟨_, e, rfl⟩ F.entry_list_extend (F.args_list_extend_2 _ _)
    (AutoSeq1.list_extend_list_list_0 l its.toArray n b its2.toArray n2 hlong (by rw [List.size_toArray]; omega) (by omega)) ⟨e, e2, ?_⟩
  refine ⟨.non, _, I.lset (its' := its ++ its2) hH e (by simp) (r.append r2) ?_, rfl, q⟩
  rw [List.length_append]
  omega

def rPop : V → List V → Hp → VK → Prop := fun x vs H Q => ∃ l xs y, x = .ref l ∧ vs = [] ∧ H l = some (.lst xs) ∧ xs[xs.length - 1]? = some y ∧ Q y (upd H l (.lst xs.dropLast))
theorem mt_pop : MtM X "list.pop" rPop := by
  intro pins s σ H x vs v us Q I rx rv h
  obtain ⟨l, xs, y, rfl, rfl, hH, hy, q⟩ := h
  cases rx
  have hus := rv.zero
  subst hus
  obtain ⟨z, its, n, r, hl, e⟩ := I.lstM hH
  obtain ⟨u, hu, ru⟩ := r.get hy
  have hy' : its.toArray[its.toArray.size - 1]? = some u := by
    show its.toArray[its.length - 1]? = some u
    rw [← Array.getElem?_toList, ← hl]
    exact hu
  refine call_meets F.slot_list_pop ⟨_, e, rfl⟩ F.entry_list_pop (F.args_list_pop_1 _) (MeetsSeq.list_pop_last l its.toArray n u hy' (by rw [List.size_toArray]; omega)) ⟨e, ?_⟩
  refine ⟨y, _, I.lset (its' := its.dropLast) hH e ?_ r.dropLast ?_, ru, q⟩
  · show its.toArray.eraseIdxIfInBounds (its.toArray.size - 1) = its.dropLast.toArray
    rw [List.size_toArray, List.eraseIdxIfInBounds_toArray, erase_last]
  · rw [List.length_dropLast]
    omega

def rPopAt : V → List V → Hp → VK → Prop := fun x vs H Q => ∃ l xs i k y, x = .ref l ∧ vs = [.int i] ∧ H l = some (.lst xs) ∧ -(2 ^ 63) ≤ i ∧ i < 2 ^ 63 ∧ seqIndex? i xs.length = some k ∧ xs[k]? = some y ∧ Q y (upd H l (.lst (xs.eraseIdx k)))
theorem mt_popAt : MtM X "list.pop" rPopAt := by
  intro pins s σ H x vs v us Q I rx rv h
  obtain ⟨l, xs, i, k, y, rfl, rfl, hH, h1, h2, hk, hy, q⟩ := h
  cases rx
  obtain ⟨u, rfl, ru⟩ := rv.one
  obtain ⟨t, rfl⟩ := ru
  obtain ⟨z, its, n, r, hl, e⟩ := I.lstM hH
  obtain ⟨w, hw, rw'⟩ := r.get hy
  refine call_meets F.slot_list_pop ⟨_, e, rfl⟩ F.entry_list_pop (F.args_list_pop_2 _ _)
    (MeetsSeq.list_pop_at l its.toArray n i t k w (fitsIndex_both h1 h2) (by rw [List.size_toArray, ← hl]; exact hk) (by rw [← Array.getElem?_toList]; exact hw) (by rw [List.size_toArray]; omega)) ⟨e, ?_⟩
  refine ⟨y, _, I.lset (its' := its.eraseIdx k) hH e ?_ (r.eraseIdx k) ?_, rw', q⟩
  · show its.toArray.eraseIdxIfInBounds k = (its.eraseIdx k).toArray
    rw [List.eraseIdxIfInBounds_toArray]
  · have := len_erase xs k
    omega

def rReverse : V → List V → Hp → VK → Prop := fun x vs H Q => ∃ l xs, x = .ref l ∧ vs = [] ∧ H l = some (.lst xs) ∧ Q .non (upd H l (.lst xs.reverse))
theorem mt_reverse : MtM X "list.reverse" rReverse := by
  intro pins s σ H x vs v us Q I rx rv h
  obtain ⟨l, xs, rfl, rfl, hH, q⟩ := h
  cases rx
  have hus := rv.zero
  subst hus
  obtain ⟨z, its, n, r, hl, e⟩ := I.lstM hH
  refine call_meets F.slot_list_reverse ⟨_, e, rfl⟩ F.entry_list_reverse (F.args_list_reverse_1 _) (AutoSeq1.list_reverse_list_0 l its.toArray n (by rw [List.size_toArray]; omega)) ⟨e, ?_⟩
  refine ⟨.non, _, I.lset (its' := its.reverse) hH e (by simp) r.reverse ?_, rfl, q⟩
  rw [List.length_reverse]
  omega

def rClear : V → List V → Hp → VK → Prop := fun x vs H Q => ∃ l xs, x = .ref l ∧ vs = [] ∧ H l = some (.lst xs) ∧ Q .non (upd H l (.lst []))
theorem mt_clear : MtM X "list.clear" rClear := by
  intro pins s σ H x vs v us Q I rx rv h
  obtain ⟨l, xs, rfl, rfl, hH, q⟩ := h
  cases rx
  have hus := rv.zero
  subst hus
  obtain ⟨z, its, n, r, hl, e⟩ := I.lstM hH
  refine call_meets F.slot_list_clear ⟨_, e, rfl⟩ F.entry_list_clear (F.args_list_clear_1 _) (AutoSeq1.list_clear_list_0 l its.toArray n (by rw [List.size_toArray]; omega)) ⟨e, ?_⟩
  exact ⟨.non, _, I.lset (its' := []) (ys := []) hH e rfl .nil (Nat.zero_le _), rfl, q⟩

/-! ### list + list, list += list, list * int -/
def rCat : R2 := fun x y H Q => ∃ l b xs zs, x = .ref l ∧ y = .ref b ∧ H l = some (.lst xs) ∧ H b = some (.lst zs) ∧ xs.length + zs.length ≤ sizeLine ∧ ∀ p, H p = none → Q (.ref p) (upd H p (.lst (xs ++ zs)))
theorem op_cat : OpR X (binaryOp .Add) rCat := by
  intro pins s σ H x y v u Q I rx ry h
  obtain ⟨l, b, xs, zs, rfl, rfl, hH, hB, hz, q⟩ := h
  cases rx
  cases ry
  obtain ⟨z, its, n, r, hl, e⟩ := I.lstM hH
  obtain ⟨z2, its2, n2, r2, hl2, e2⟩ := I.lstM hB
  refine PySem.P.add_list e e2 ?_ (by rw [List.size_toArray, List.size_toArray]; omega)
  have ea : its.toArray ++ its2.toArray = (its ++ its2).toArray := by simp
  rw [ea]
  exact ⟨.ref _, _, I.lnew (t' := s.toks) (r.append r2) (by rw [List.length_append]; omega), rfl, q _ I.fresh⟩
/-- a list times an int (a negative one is nothing) -/
def rRep : R2 := fun x y H Q => ∃ l k xs, x = .ref l ∧ y = .int k ∧ H l = some (.lst xs) ∧ -(2 ^ 63) ≤ k ∧ k < 2 ^ 63 ∧ xs.length * k.toNat ≤ sizeLine ∧
  ∀ p, H p = none → Q (.ref p) (upd H p (.lst (List.replicate k.toNat xs).flatten))
theorem len_rep {α : Type} (xs : List α) (k : Nat) : (List.replicate k xs).flatten.length = k * xs.length := by
  induction k with
  | zero => simp
  | succ k ih => rw [List.replicate_succ, List.flatten_cons, List.length_append, ih, Nat.succ_mul, Nat.add_comm]
theorem op_rep : OpR X (binaryOp .Mult) rRep := by
  intro pins s σ H x y v u Q I rx ry h
  obtain ⟨l, k, xs, rfl, rfl, hH, h1, h2, hz, q⟩ := h
  cases rx
  obtain ⟨t, rfl⟩ := ry
  obtain ⟨z, its, n, r, hl, e⟩ := I.lstM hH
  have hlen : its.toArray.size * k.toNat ≤ sizeLine := by rw [List.size_toArray, ← hl]; exact hz
  have hcap : ¬ its.toArray.size * k.toNat > (2 ^ 63 - 1) / 8 := by
    have : (sizeLine : Nat) ≤ (2 ^ 63 - 1) / 8 := by decide
    omega
  have hfit : ¬ (!Builtin.List.listFitsIndex k) = true := by
    rw [fitsIndex_both h1 h2]
    exact Bool.false_ne_true
  have hlong : ¬ Builtin.List.listTooLong (its.toArray.size * k.toNat) = true := by
    rw [notLongL hlen]
    exact Bool.false_ne_true
  have hnew : List.foldl (fun x1 x2 => x1 ++ x2) #[] (List.replicate (if its.toArray.isEmpty = true then 0 else k.toNat) its.toArray) = (List.replicate k.toNat its).flatten.toArray := by
    have f0 : ∀ m : Nat, List.foldl (fun x1 x2 => x1 ++ x2) #[] (List.replicate m its.toArray) = (List.replicate m its).flatten.toArray := fun m => by
      have := foldl_rep its m []
      rw [List.nil_append] at this
      exact this
    rw [f0]
    cases its with
    | nil => simp
    | cons a r' => rw [if_neg (by simp)]
  refine wpAny_binaryOp_repeat_ref (T := "list") (U := "int") (by decide) ⟨_, e, rfl⟩ (fun s' => typeIs_int s' k t) noFill_list_mul F.fills_int_mul F.slot_int_rmul repeat_list F.slot_int_index.lookup
    (call_meets F.slot_int_rmul (typeIs_int s k t) F.entry_int_rmul (F.args_int_rmul_2 _ _) (int___rmul___int_list k t l its.toArray n)
      ⟨e, rfl, ⟨_, e, rfl⟩, call_meets F.slot_list_mul ⟨_, e, rfl⟩ F.entry_list_mul (F.args_list_mul_2 _ _) (AutoListH.list___mul___list_int_3 l its.toArray n k t hfit hcap hlong) ⟨e, ?_⟩⟩)
  rw [hnew]
  exact ⟨.ref _, _, I.lnew (t' := s.toks) (r.rep k.toNat) (by rw [len_rep, Nat.mul_comm]; exact hz), rfl, q _ I.fresh⟩

/-! ### del xs[i] -/
theorem del_list {pins : List (Addr × Obj)} {s : Shared} {σ : St} {H : Hp} {l : Addr} {xs : List V} {i : Int} {t : Tok} {k : Nat} {Q : Unit → Shared → Prop} (I : Inv X pins σ H s) (hH : H l = some (.lst xs))
    (h1 : -(2 ^ 63) ≤ i) (h2 : i < 2 ^ 63) (hk : seqIndex? i xs.length = some k) (h : ∀ s', Inv X pins σ (upd H l (.lst (xs.eraseIdx k))) s' → Q () s') :
    wpAny (model X.prog X.w) X.A (delItem (.ref l) (.int i t)) Q X.xe s := by
  obtain ⟨z, its, n, r, hl, e⟩ := I.lstM hH
  refine PySem.P.delItem_list (k := k) e (fitsIndex_both h1 h2) (by rw [List.size_toArray, ← hl]; exact hk) (h _ ?_) (by rw [List.size_toArray]; omega)
  refine I.lset (its' := its.eraseIdx k) (t' := s.toks) hH e ?_ (r.eraseIdx k) ?_
  · show its.toArray.eraseIdxIfInBounds k = (its.eraseIdx k).toArray
    rw [List.eraseIdxIfInBounds_toArray]
  · have := len_erase xs k
    omega
end

/-! ### xs[a:b] = ys -/
section
variable {prog : Program} {w : World} {A : Around} {E : Value → Shared → Prop} {s : Shared}
theorem splice_eq (its its2 : List Value) (a c : Nat) : its.toArray.extract 0 a ++ its2.toArray ++ its.toArray.extract c its.toArray.size = (its.take a ++ its2 ++ its.drop c).toArray := by
  apply Array.toList_inj.mp
  first
    | (simp
       exact List.take_of_length_le (by simp))
    | simp [List.take_of_length_le]
    | simp
theorem bounds_run {a c n : Nat} (hac : a ≤ c) (hc : c ≤ n) : sliceBounds (some (a : Int)) (some (c : Int)) none n = ((a : Int), (c : Int), 1) := by
  simp only [sliceBounds, Option.getD_none]
  have h1 : ¬ ((a : Int) < 0) := by omega
  have h2 : ¬ ((c : Int) < 0) := by omega
  simp only [h1, h2, if_false, show (1 : Int) > 0 by decide, if_true]
  congr 1
  · omega
  · congr 1; omega
set_option maxRecDepth 100000 in
/-- list.__setitem__ with a slice of step one and another list -/
theorem setItem_slice {l b sl : Addr} {items new : Array Value} {n n2 : Nat} {vl vu : Value} {a c : Nat} {Q : Unit → Shared → Prop}
    (e : s.heap.get? l = some { cls := .type "list", data := .seq items n }) (e2 : s.heap.get? b = some { cls := .type "list", data := .seq new n2 }) (hne : l ≠ b)
    (hs : s.heap.IsSliceOf sl vl vu .none) (pl : IsPart vl (some (a : Int))) (pu : IsPart vu (some (c : Int))) (hac : a ≤ c) (hc : c ≤ items.size)
    (hsz : items.size + new.size ≤ sizeLine) (h : Q () { s with heap := s.heap.update l (Obj.mapSeq fun xs => xs.extract 0 a ++ new ++ xs.extract c xs.size) }) :
    wpAny (model prog w) A (setItem (.ref l) (.ref sl) (.ref b)) Q E s := by
  have hl : s.heap.IsList l items := PySem.IsL.isList e
  have hb : s.heap.IsList b new := PySem.IsL.isList e2
  obtain ⟨os, hos, hcs, hds⟩ := id hs
  have hTs : s.TypeIs (.ref sl) "slice" := ⟨os, hos, hcs⟩
  have hstep : ¬ ((rawPart none == rawInt 0) = true) := Bool.false_ne_true
  have hsame : Builtin.List.listSameRef (.ref l) (.ref b) = false := by
    unfold Builtin.List.listSameRef
    exact beq_eq_false_iff_ne.mpr hne
  have hmax : (max (a : Int) (c : Int)).toNat = c := by omega
  have hz' : ((fun xs : Array Value => xs.extract 0 a ++ new ++ xs.extract c xs.size) items).size ≤ sizeLine + 1 := by
    simp only [Array.size_append, Array.size_extract]
    omega
  unfold setItem
  try with_reducible refine wpAny_holding ?_
  first | refine wpAny_bind (wpAny_pure ?_) | skip
  refine wpAny_bind (wpAny_sequenceKey hl.typeIs (by decide) ?_)
  refine wpAny_bind (wpAny_callSpecial?_slot (name := Str.ofString "__setitem__") hl.typeIs slot_list_setitem
    (wpAny_call_entry slot_list_setitem hl.typeIs entry_list_setitem ?_ (args_list_setitem _ _ _)))
  show wpAny _ _ (Builtin.List.listSubscript? (.ref sl) >>= _) _ _ s
  refine wpAny_bind ?_
  unfold Builtin.List.listSubscript?
  refine wpAny_bind (wpAny_specialOf hTs slice_no_index ?_)
  simp only [Option.isNone_none, if_true]
  refine wpAny_pure ?_
  show wpAny _ _ (typeOf (.ref sl) >>= _) _ _ s
  refine wpAny_bind (wpAny_typeOf hTs ?_)
  first
    | rw [if_neg (by decide)]
    | refine PySem.W.KFB.if_not (by decide) ?_
  rw [listSliceParts_eq]
  refine wpAny_bind (wpAny_bind (wpAny_field hos hds (x := .none) rfl (wpAny_bind (wpAny_listPart .none ?_))))
  rw [if_neg hstep]
  refine wpAny_bind (wpAny_field hos hds (x := vl) rfl (wpAny_bind (wpAny_listPart pl ?_)))
  refine wpAny_bind (wpAny_field hos hds (x := vu) rfl (wpAny_bind (wpAny_listPart pu (wpAny_pure ?_))))
  first
    | simp only [hsame, Bool.false_eq_true, if_false]
    | refine PySem.W.KFB.if_not hsame ?_
    | (dsimp only
       rw [if_neg (by rw [hsame]; exact Bool.false_ne_true)])
  refine wpAny_bind (m := Builtin.List.listAllItems (.ref b) "must assign iterable to extended slice") ?_
  unfold Builtin.List.listAllItems
  refine wpAny_bind (wpAny_typeOf hb.typeIs ?_)
  first
    | refine PySem.W.KFB.if_so (by decide) ?_
    | rw [if_pos (by decide)]
    | simp only [beq_self_eq_true, Bool.true_or, if_true]
  unfold Builtin.List.listItems
  refine wpAny_bind (wpAny_seqItems e2 rfl (wpAny_pure ?_))
  refine wpAny_bind (wpAny_bind (wpAny_seqItems e rfl (wpAny_pure ?_)))
  refine wpAny_bind (wpAny_of_eq ((sliceIndices_raw (some (a : Int)) (some (c : Int)) none items.size (by simp)).trans (congrArg (pure : Int × Int × Int → Sem (Int × Int × Int)) (bounds_run hac hc))) ?_)
  show wpAny _ _ (if ((1 : Int) == 1) = true then _ else _) _ _ s
  rw [if_pos (by decide)]
  refine wpAny_bind (wpAny_rule ?_)
  first
    | simp only [notLongL hsz, Bool.false_eq_true, if_false]
    | refine PySem.W.KFB.if_not (notLongL hsz) ?_
  first | refine wpAny_bind (wpAny_pure ?_) | skip
  show wpAny _ _ (updateSeq l (fun xs => xs.extract 0 ((a : Int)).toNat ++ new ++ xs.extract (max (a : Int) (c : Int)).toNat xs.size) >>= _) _ _ s
  rw [hmax, Int.toNat_natCast]
  refine wpAny_bind (wpAny_updateSeq (hz := Nat.le_trans (Nat.le_add_right _ _) hsz) (_hz' := hz') e rfl ?_)
  refine wpAny_bind (wpAny_letGo ?_)
  first
    | exact wpAny_bind (wpAny_pure (wpAny_pure ⟨.none, rfl, wpAny_pure h⟩))
    | exact wpAny_pure ⟨.none, rfl, wpAny_pure h⟩
end

section
variable {X : Cx}
/-- xs[a:c] = ys of another list, at the value level: sl is the slice object that was just made -/
theorem set_slice {pins : List (Addr × Obj)} {s : Shared} {σ : St} {H : Hp} {l b sl : Addr} {xs ys : List V} {a c : Int} {vl vu : Value} {Q : Unit → Shared → Prop} (I : Inv X pins σ H s)
    (hH : H l = some (.lst xs)) (hB : H b = some (.lst ys)) (hne : l ≠ b) (hs : s.heap.IsSliceOf sl vl vu .none) (ra : RelV (.int a) vl) (rc : RelV (.int c) vu) (h0 : 0 ≤ a) (hac : a ≤ c) (hc : c ≤ xs.length)
    (hz : xs.length + ys.length ≤ sizeLine) (h : ∀ s', Inv X pins σ (upd H l (.lst (xs.take a.toNat ++ ys ++ xs.drop c.toNat))) s' → Q () s') :
    wpAny (model X.prog X.w) X.A (setItem (.ref l) (.ref sl) (.ref b)) Q X.xe s := by
  obtain ⟨ta, rfl⟩ := ra
  obtain ⟨tc, rfl⟩ := rc
  obtain ⟨z, its, n, r, hl, e⟩ := I.lstM hH
  obtain ⟨z2, its2, n2, r2, hl2, e2⟩ := I.lstM hB
  obtain ⟨a', rfl⟩ := Int.eq_ofNat_of_zero_le h0
  obtain ⟨c', rfl⟩ := Int.eq_ofNat_of_zero_le (Int.le_trans h0 hac)
  simp only [Int.toNat_natCast] at h
  refine setItem_slice (a := a') (c := c') e e2 hne hs (.int _ _) (.int _ _) (by omega) (by rw [List.size_toArray]; omega) (by rw [List.size_toArray, List.size_toArray]; omega) (h _ ?_)
  refine I.lset (its' := its.take a' ++ its2 ++ its.drop c') (t' := s.toks) hH e ?_ (Vals.append (Vals.append (r.take _) r2) (r.drop _)) ?_
  · exact splice_eq its its2 a' c'
  · rw [List.length_append, List.length_append, List.length_take, List.length_drop]
    omega
end
end L2

namespace Att
open PySem PySem.W PySem.Calls PyProof.Rows

/-! ### the script -/
theorem ints_of_wellAll {P : Params} {h : Heap} : ∀ (ns : List Int) (vs : List Value), WellAll P h vs (ns.map WData.int) → IntsAre vs ns := by
  intro ns
  induction ns with
  | nil =>
    intro vs w
    rw [List.map_nil] at w
    cases w
    exact .nil
  | cons n ns ih =>
    intro vs w
    rw [List.map_cons] at w
    cases w with
    | cons a b =>
      cases a
      exact .cons _ _ (ih _ b)

theorem script_of {l : OpenLaw} {n : Nat} (hn : l.most = some n) {P : Params} {h : Heap} {args : List WData} {vals : List Value}
    (hpre : l.row.toRowW.claim.pre args = true) (hwl : WellAll P h vals args) :
    ∃ a vs ns, vals = [Value.ref a] ∧ args = [WData.list (ns.map WData.int)] ∧ h.get? a = some { cls := .type "list", data := .seq vs.toArray } ∧ IntsAre vs ns ∧ ns.length ≤ n := by
  have hsh : WShape.hasAll [] args [.list .int] = true := (pre_splitW hpre).1
  have hc : l.pre.holds [] { args := args } = true := (pre_splitW hpre).2
  obtain ⟨d, r, rfl, h1, h2⟩ := hasAllW_cons hsh
  obtain rfl := hasAllW_nil h2
  obtain ⟨xs, rfl, h3⟩ := hasW_list h1
  obtain ⟨ns, rfl⟩ := items_int h3
  have hlen : ns.length ≤ n := by
    unfold OpenLaw.pre at hc
    have h4 : (WTm.not (.lt (.lit (.int (n : Int))) (.len (.arg 0)))).holds [] { args := [.list (ns.map .int)] } = true := by
      have h4 := (holds_andW hc).1
      rw [hn] at h4
      exact h4
    have h5 := condW_of h4 (w_not (w_lt w_lit (w_len_list (w_arg rfl))))
    rw [List.length_map] at h5
    refine Nat.le_of_not_lt fun q => ?_
    have q' : (n : Int) < ((ns.length : Nat) : Int) := by omega
    first
      | (rw [decide_eq_true q'] at h5; exact absurd h5 (by decide))
      | (simp at h5; omega)
  cases hwl with
  | cons w1 w2 =>
    cases w2
    cases w1 with
    | list ho hall => exact ⟨_, _, ns, rfl, rfl, ho, ints_of_wellAll ns _ hall, hlen⟩

theorem post_true (l : OpenLaw) (args : List WData) : l.row.toRowW.claim.post args (.bool true) args = true :=
  postW_of (r := l.row.toRowW) (X := (true == true))
    (show WShape.has [] (.bool true) .bool = true by first | rfl | decide | simp [WShape.has, WShape.arms, WShape.armsAll])
    (show (WTm.eq .res (.lit (.bool true))).value [] { args := args, res := some (.bool true), after := args } = some (.bool (true == true)) from w_eq_bool (w_res rfl) w_lit) rfl

/-! ### the attachment: holds_open's last premise (the goal 'hc' behind k_head) from a wpAny of the law's body -/
theorem attach {l : OpenLaw} {n : Nat} {q : Program} {loose : List Str} {XP : (Str → Option Value) → Heap → Prop} {YP : World → Heap → Prop} {d : DefRec} {x : Str}
    (hn : l.most = some n) (hdf : d.params.defaults = [])
    (hbind : ∀ pm cd doc v : Value, bindArgs (docDef d.name d.params d.body d.scope pm cd doc) ⟨[v], []⟩ = pure [(x, v)])
    (hx : d.scope.names.lookup x = some .local ∨ d.scope.names.lookup x = some .cell)
    (hk : d.scope.kind = .function) (hco : d.scope.isCoroutine = false) (hgen : d.scope.isGenerator = false)
    (body : ∀ (w : World) (s₀ s₁ s : Shared) (mg mb : Str → Option Value) (fa : Addr) (o : Obj) (pm cd doc : Value) (a : Addr) (vs : List Value) (ns : List Int),
      Ground q loose [] XP w s₀ mg mb s₁.heap → YP w s₁.heap →
      s₁.heap.get? fa = some o → o.data = .func (docDef d.name d.params d.body d.scope pm cd doc) → s₁.heap.CodeRec cd d.name → mg d.name = some (.ref fa) →
      s₁.heap.get? a = some { cls := .type "list", data := .seq vs.toArray } → IntsAre vs ns → ns.length ≤ n →
      s.gens = #[] → s.os = s₁.os →
      Fr s₁.heap s₁.heap.objs.size s.heap (bindL (envOfC d.name d.scope s₁.heap.objs.size fa cd).kindOf [(x, .ref a)] fun _ => none) →
      Cl s₁.heap.objs.size (cellsFrom (s₁.heap.objs.size + 1) d.scope.names []) s.heap (bindC (envOfC d.name d.scope s₁.heap.objs.size fa cd).kindOf [(x, .ref a)] fun _ => none) →
      wpAny (model l.prog w) (callerA.deeper (envOfC d.name d.scope s₁.heap.objs.size fa cd)) (execs d.body (envOfC d.name d.scope s₁.heap.objs.size fa cd))
        (fun f s' => f = .ret (.bool true) ∧ OldK s₁.heap s'.heap ∧ s'.os = s₁.os ∧ AllBare s'.gens) (fun _ _ => False) s) :
    WalkO q loose XP YP l.row.toRowW d [] (fun f vs => PySem.call f vs) := by
  intro w s₀ s₁ mg mb G Y fa o pm cd doc dV kV ho hd hcd hD hmg hg args vals as hpre hlay hrd hwl hlo
  obtain rfl : dV = .none := Dflts.none hD hdf
  obtain rfl : kV = .none := Dflts.noKw hD
  obtain ⟨a, vs, ns, rfl, rfl, hobj, hints, hlen⟩ := script_of hn hpre hwl
  refine enter_call ?_
  refine call_cells_ret (o := o) (by rw [depth_caller]; decide) ho (fd_plain hd) G.T.nolimit hcd (hbind pm cd doc (.ref a)) (fun y hy => ?_) (fun h₁ tk F X => ?_) hco hgen hk
  · obtain rfl : y = (x, Value.ref a) := List.mem_singleton.mp hy
    rcases hx with e | e
    · exact .inl e
    · exact .inr ⟨e, cellsFrom_some _ _ _ (.inl e)⟩
  · refine wpAny_mono (body w s₀ s₁ { s₁ with heap := h₁, toks := tk } mg mb fa o pm cd doc a vs ns G Y ho (fd_plain hd) hcd hmg hobj hints hlen hg rfl F X) (fun f s' hq => ?_) (fun _ _ hq => hq)
    obtain ⟨rfl, h2, h3, h4⟩ := hq
    exact ⟨.inl ⟨.bool true, .bool true, [], rfl, fun _ => rfl, .bool true, post_true l _, fun _ => ⟨List.Pairwise.nil, fun _ hm => (nomatch hm)⟩⟩, h2, h3, h4⟩

/-- the same from a codeAny of the CALL (for a layer whose function contracts speak of calls) -/
theorem attach_call {l : OpenLaw} {n : Nat} {q : Program} {loose : List Str} {XP : (Str → Option Value) → Heap → Prop} {YP : World → Heap → Prop} {d : DefRec}
    (hn : l.most = some n) (hdf : d.params.defaults = [])
    (call : ∀ (w : World) (s₀ s₁ : Shared) (mg mb : Str → Option Value) (fa : Addr) (o : Obj) (pm cd doc : Value) (a : Addr) (vs : List Value) (ns : List Int),
      Ground q loose [] XP w s₀ mg mb s₁.heap → YP w s₁.heap →
      s₁.heap.get? fa = some o → o.data = .func (docDef d.name d.params d.body d.scope pm cd doc) → s₁.heap.CodeRec cd d.name → mg d.name = some (.ref fa) →
      s₁.heap.get? a = some { cls := .type "list", data := .seq vs.toArray } → IntsAre vs ns → ns.length ≤ n → s₁.gens = #[] →
      codeAny (model l.prog w) callerA (.call (.ref fa) ⟨[.ref a], []⟩) (fun r s' => r = .ok (.ret (.bool true)) ∧ OldK s₁.heap s'.heap ∧ s'.os = s₁.os ∧ AllBare s'.gens) s₁) :
    WalkO q loose XP YP l.row.toRowW d [] (fun f vs => PySem.call f vs) := by
  intro w s₀ s₁ mg mb G Y fa o pm cd doc dV kV ho hd hcd hD hmg hg args vals as hpre hlay hrd hwl hlo
  obtain rfl : dV = .none := Dflts.none hD hdf
  obtain rfl : kV = .none := Dflts.noKw hD
  obtain ⟨a, vs, ns, rfl, rfl, hobj, hints, hlen⟩ := script_of hn hpre hwl
  refine enter_call (codeAny_mono (call w s₀ s₁ mg mb fa o pm cd doc a vs ns G Y ho (fd_plain hd) hcd hmg hobj hints hlen hg) fun r s' hq => ?_)
  obtain ⟨rfl, h2, h3, h4⟩ := hq
  exact ⟨.inl ⟨.bool true, .bool true, [], rfl, fun _ => rfl, .bool true, post_true l _, fun _ => ⟨List.Pairwise.nil, fun _ hm => (nomatch hm)⟩⟩, h2, h3, h4⟩

/-- the same where the top left finished generators (o_head chose holds_openN): nothing may have changed at all and no generator may be left -/
theorem attachN {l : OpenLaw} {n : Nat} {q : Program} {loose : List Str} {XP : (Str → Option Value) → Heap → Prop} {YP : World → Heap → Prop} {d : DefRec} {x : Str}
    (hn : l.most = some n) (hdf : d.params.defaults = [])
    (hbind : ∀ pm cd doc v : Value, bindArgs (docDef d.name d.params d.body d.scope pm cd doc) ⟨[v], []⟩ = pure [(x, v)])
    (hx : d.scope.names.lookup x = some .local ∨ d.scope.names.lookup x = some .cell)
    (hk : d.scope.kind = .function) (hco : d.scope.isCoroutine = false) (hgen : d.scope.isGenerator = false)
    (body : ∀ (w : World) (s₀ s₁ s : Shared) (mg mb : Str → Option Value) (fa : Addr) (o : Obj) (pm cd doc : Value) (a : Addr) (vs : List Value) (ns : List Int),
      Ground q loose [] XP w s₀ mg mb s₁.heap → YP w s₁.heap →
      s₁.heap.get? fa = some o → o.data = .func (docDef d.name d.params d.body d.scope pm cd doc) → s₁.heap.CodeRec cd d.name → mg d.name = some (.ref fa) →
      s₁.heap.get? a = some { cls := .type "list", data := .seq vs.toArray } → IntsAre vs ns → ns.length ≤ n →
      s.gens = #[] → s.os = s₁.os →
      Fr s₁.heap s₁.heap.objs.size s.heap (bindL (envOfC d.name d.scope s₁.heap.objs.size fa cd).kindOf [(x, .ref a)] fun _ => none) →
      Cl s₁.heap.objs.size (cellsFrom (s₁.heap.objs.size + 1) d.scope.names []) s.heap (bindC (envOfC d.name d.scope s₁.heap.objs.size fa cd).kindOf [(x, .ref a)] fun _ => none) →
      wpAny (model l.prog w) (callerA.deeper (envOfC d.name d.scope s₁.heap.objs.size fa cd)) (execs d.body (envOfC d.name d.scope s₁.heap.objs.size fa cd))
        (fun f s' => f = .ret (.bool true) ∧ (∀ b o, s₁.heap.get? b = some o → s'.heap.get? b = some o) ∧ s'.os = s₁.os ∧ s'.gens = #[]) (fun _ _ => False) s) :
    WalkN q loose XP YP l.row.toRowW d [] (fun f vs => PySem.call f vs) := by
  intro w s₀ s₁ mg mb G Y fa o pm cd doc dV kV ho hd hcd hD hmg hg args vals as hpre hlay hrd hwl hlo
  obtain rfl : dV = .none := Dflts.none hD hdf
  obtain rfl : kV = .none := Dflts.noKw hD
  obtain ⟨a, vs, ns, rfl, rfl, hobj, hints, hlen⟩ := script_of hn hpre hwl
  refine enter_callW ?_
  refine call_cells_ret (o := o) (by rw [depth_caller]; decide) ho (fd_plain hd) G.T.nolimit hcd (hbind pm cd doc (.ref a)) (fun y hy => ?_) (fun h₁ tk F X => ?_) hco hgen hk
  · obtain rfl : y = (x, Value.ref a) := List.mem_singleton.mp hy
    rcases hx with e | e
    · exact .inl e
    · exact .inr ⟨e, cellsFrom_some _ _ _ (.inl e)⟩
  · refine wpAny_mono (body w s₀ s₁ { s₁ with heap := h₁, toks := tk } mg mb fa o pm cd doc a vs ns G Y ho (fd_plain hd) hcd hmg hobj hints hlen hg rfl F X) (fun f s' hq => ?_) (fun _ _ hq => hq)
    obtain ⟨rfl, h2, h3, h4⟩ := hq
    exact ⟨.inl ⟨.bool true, .bool true, [], rfl, fun _ => rfl, .bool true, post_true l _, fun _ => ⟨List.Pairwise.nil, fun _ hm => (nomatch hm)⟩⟩, h2, h3, h4⟩

/-! ### rules over ANY heap (no ledger) from facts about the written part K: the library's own take a ledger (News) for what they write -/
section
variable {prog : Program} {w : World} {A : Around} {E : Value → Shared → Prop} {s : Shared} {K : Frag}

/-- a def of the module, or a method (qual 'C.m'), entered: the frame is the next address; cells behind it -/
theorem call_fn {R : Result → Shared → Prop} {name qual : Str} {params : Arguments} {body : List Stmt} {scope : Scope} {dV kV doc pm cdv ct oc : Value} {an od : Option Addr} {osl : Array (Option Value)} {f : Addr} {args : Args} {binds : List (Str × Value)}
    (X : K.In s.heap) (hlim : s.heap.NoLimit) (ho : K.lookup f = some ⟨oc, od, .func (fnOf name qual params body scope dV kV doc pm an cdv ct), osl⟩) (hcd : codeIn K cdv qual = true) (hroom : A.depth < recursionLimit)
    (hbind : BindsTo s (fnOf name qual params body scope dV kV doc pm an cdv ct) args binds)
    (hkind : (binds.all fun y => scope.names.lookup y.1 == some .local || scope.names.lookup y.1 == some .cell) = true)
    (h : ∀ s₁, InCallC s s.heap.objs.size (bindL (envOfC qual scope s.heap.objs.size f cdv).kindOf binds fun _ => none) (cellsFrom (s.heap.objs.size + 1) scope.names [])
        (bindC (envOfC qual scope s.heap.objs.size f cdv).kindOf binds fun _ => none) s₁ →
      wpAny (model prog w) (A.deeper (envOfC qual scope s.heap.objs.size f cdv)) (execs body (envOfC qual scope s.heap.objs.size f cdv))
        (fun fl s' => R (.ok (.ret (match fl with | .ret v => v | _ => .none))) s')
        (fun e s' => wpAny (model prog w) (A.deeper (envOfC qual scope s.heap.objs.size f cdv)) («leaving» (envOfC qual scope s.heap.objs.size f cdv) e) (fun _ s'' => R (.error e) s'') (fun e' s'' => R (.error e') s'') s') s₁)
    (hco : scope.isCoroutine = false) (hgen : scope.isGenerator = false) (hk : scope.kind = .function) : codeAny (model prog w) A (.call (.ref f) args) R s := by
  refine codeAny_call_function hroom (X _ _ ho) rfl hco hgen rfl (codeRec_of X hcd) (hbind _ _ _ _ ?_)
  refine wpAny_newFunctionEnv_cells hk (kindsX hkind _) fun env he s₁ x => ?_
  subst he
  exact ⟨hlim.keeps x.toInCall.keep, codeAny_func (h s₁ x)⟩

/-- C(..): dict at size, instance at size + 1, then __init__ -/
theorem make_obj {R : Result → Shared → Prop} {C fI : Addr} {rest : List Value} {kw : List (Str × Value)}
    (X : K.In s.heap) (hm : makesIn K C = true) (hi : findIn K (.ref C) "__init__" = some (some (.ref fI))) (hf : isFn K (.ref fI) = true)
    (h : codeAny (model prog w) (A.under (.builtin "type.__call__" ⟨.ref C :: rest, kw⟩)) (.call (.ref fI) ⟨.ref (s.heap.objs.size + 1) :: rest, kw⟩) (InitBack (s.heap.objs.size + 1) R)
      { s with heap := (s.heap.push emptyDict).push (instObj C s.heap.objs.size) }) : codeAny (model prog w) A (.call (.ref C) ⟨rest, kw⟩) R s := by
  obtain ⟨hh, g, d, t, os⟩ := s
  exact make_core (makes_of X hm) (looks_findIn X hi) (fun self => bind_fn X self (beq_iff_eq.mp hf)) (.inl rfl) h

/-- x.name where the instance's dict holds the name and the class does not -/
theorem get_field {x C : Addr} {ox : Obj} {es : List DictEntry} {n : Nat} {name : Str} {expr : Bool} {v : Value} {Q : Value → Shared → Prop}
    (X : K.In s.heap) (I : PySem.W.InstAt s.heap x ox C (some (dictOf es n))) (hg : plainGet K C name = true) (hh : hasDictIn K C = true) (ha : findIn K (.ref C) name = some none)
    (hl : getL name es = some (some v)) (hv : handedIn v = true) (h : Q v { s with toks := s.toks + 1 }) : wpAny (model prog w) A (getAttr (.ref x) name expr) Q E s :=
  get_value X I (plainGet_of hg).1 (findObj_own hh ha rfl hl) hv h

/-- x.m(..): the method found in the class -/
theorem get_method {x C f : Addr} {ox : Obj} {es : List DictEntry} {n : Nat} {name : Str} {pl : Sem Bool} {Q : Value × List Value → Shared → Prop}
    (X : K.In s.heap) (I : PySem.W.InstAt s.heap x ox C (some (dictOf es n))) (hg : plainGet K C name = true) (hf : findIn K (.ref C) name = some (some (.ref f))) (ht : isFn K (.ref f) = true)
    (hl : getL name es = some none) (h : Q (.ref f, [.ref x]) s) : wpAny (model prog w) A (getMethod (.ref x) name pl) Q E s :=
  method_fn X I (plainGet_of hg).1 (plainGet_of hg).2 hf (beq_iff_eq.mp ht) (by show (lookIn name (dictOf es n)).map _ = _; rw [lookIn_dict, hl]; rfl) h

/-! the whole heap as the ledger: makes every rule that writes through a ledger a rule over any heap -/
def noObjs (h : Heap) : Heap := { h with objs := #[] }
theorem noObjs_get (h : Heap) (b : Addr) : (noObjs h).get? b = none := by
  cases e : (noObjs h).get? b with
  | none => rfl
  | some o => exact absurd (Heap.lt_size e) (Nat.not_lt_zero _)
def ledger (h : Heap) (L d : Addr) : List (Addr × Obj) := (List.range h.objs.size).filterMap fun a => if a = L ∨ a = d then none else (h.get? a).map fun o => (a, o)
theorem mem_ledger {h : Heap} {L d a : Addr} {o : Obj} : (a, o) ∈ ledger h L d ↔ a ≠ L ∧ a ≠ d ∧ h.get? a = some o := by
  unfold ledger
  rw [List.mem_filterMap]
  constructor
  · rintro ⟨b, _, e⟩
    split at e
    · cases e
    · rename_i hb
      obtain ⟨o', ho, e'⟩ := Option.map_eq_some_iff.mp e
      cases e'
      exact ⟨fun q => hb (.inl q), fun q => hb (.inr q), ho⟩
  · rintro ⟨n1, n2, ho⟩
    refine ⟨a, List.mem_range.mpr (Heap.lt_size ho), ?_⟩
    rw [if_neg (show ¬ (a = L ∨ a = d) from fun q => q.elim n1 n2), ho] <;> rfl
theorem news_ledger {h : Heap} {L d : Addr} {od : Obj} (hne : d ≠ L) (ho : h.get? d = some od) : News (noObjs h) L h ([] ++ (d, od) :: ledger h L d) := by
  rintro ⟨a, o⟩ hp
  rcases List.mem_cons.mp hp with e | hp
  · cases e
    exact ⟨ho, hne, noObjs_get _ _⟩
  · obtain ⟨n1, n2, e⟩ := mem_ledger.mp hp
    exact ⟨e, n1, noObjs_get _ _⟩
theorem fr_all {h : Heap} {L : Addr} {m : Str → Option Value} (n : h.Ns L m) : Fr (noObjs h) L h m :=
  ⟨n, fun b o e => (by rw [noObjs_get] at e; cases e), Nat.zero_le _⟩
/-- Upd of the head entry (for append_K, setItem_K ..) -/
theorem upd_ledger {h : Heap} {L d : Addr} {o o' : Obj} : Upd d o o' ((d, o) :: ledger h L d) ((d, o') :: ledger h L d) :=
  .head fun ⟨_, _⟩ hp => (mem_ledger.mp hp).2.1

/-- x.name = v over any heap: L is any namespace of the heap (the frame's, say): its map stays, its object is not told; all else but the dict stays -/
theorem set_field {x C dx L : Addr} {ox : Obj} {m : Str → Option Value} {es es' : List DictEntry} {n n' : Nat} {name : Str} {v : Value} {Q : Unit → Shared → Prop}
    (X : K.In s.heap) (I : PySem.W.InstAt s.heap x ox C (some (dictOf es n))) (hd : ox.dict = some dx) (hL : s.heap.Ns L m) (hne : dx ≠ L)
    (hs : findIn K (.ref C) "__setattr__" = some (some (.builtin "object.__setattr__"))) (hp : plainOver K C = true) (ht : takerIn K C name = some none) (hh : hasDictIn K C = true) (hl : (getL name es).isSome = true)
    (e : (putL name (PyData.keyHash w.params name) (.str name (s.toks + 1)) v es, putN name es n) = (es', n')) (hz : es'.length ≤ 1000)
    (h : ∀ h' : Heap, h'.Ns L m → h'.get? dx = some (dictOf es' n') → (∀ b o, b ≠ dx → b ≠ L → s.heap.get? b = some o → h'.get? b = some o) → Q () { s with heap := h', toks := s.toks + 2 }) :
    wpAny (model prog w) A (setAttr (.ref x) name v) Q E s := by
  obtain ⟨e1, e2⟩ := Prod.mk.inj e
  have hdx : s.heap.get? dx = some (dictOf es n) := by
    have := I.dict
    rw [hd] at this
    exact this
  refine set_plain X I hs (osa_dict (s := { s with toks := s.toks + 1 }) (h₀ := noObjs s.heap) (L := L) (m := m) (od := dictOf es n) (od' := dictOf es' n') (es := es') (n := n') (pre := []) (post := ledger s.heap L dx)
    (fr_all hL) (news_ledger hne hdx) X I hd hp ht hh hl (fun _ q => nomatch q) (fun ⟨_, _⟩ q => (mem_ledger.mp q).2.1) (by rw [putName_dict, e1, e2]) rfl hz fun h' F' N' => ?_)
  exact h h' F'.ns (N'.get (List.Mem.head _)) fun b o n1 n2 ho => N'.get (List.Mem.tail _ (mem_ledger.mpr ⟨n2, n1, ho⟩))
end
end Att

namespace L2
open PySem PySem.Spec PyProof.Rows

theorem vals_ints : ∀ {vs : List Value} {ns : List Int}, IntsAre vs ns → Vals (ns.map V.int) vs
  | _, _, .nil => .nil
  | _, _, .cons n t h => .cons ⟨t, rfl⟩ (vals_ints h)

/-- nothing is tracked but the script, known to the object (or it is an object of the module) -/
def Only (H : Hp) : Prop := ∀ b, H b = none ∨ ∃ o xs, H b = some (.frz o (.lst xs))

/-- THE HEAD: the law's promise, at the heap behind the top. F, the promise of the law's def, may use that base is part of the heap (so K.In base, base.Ns mainGlobals mg stand in Mod) -/
theorem law_call {P : Program} {w : World} {K : PySem.W.Frag} {mg mb : Str → Option Value} {CX : CXT} {k : Nat} {fa a : Addr} {fd : FuncData} {x : Str} {sp : Sp} {s₁ : Shared} {vs : List Value} {ns : List Int}
    (KX : K.In s₁.heap) (hns : s₁.heap.Ns mainGlobals mg) (hb : s₁.heap.Ns builtinsNs mb) (hbb : ∀ x : Str, x ≠ "__name__" → mb x = bootBuiltins x) (hlim : s₁.heap.NoLimit) (hg : s₁.gens = #[])
    (ha : s₁.heap.get? a = some { cls := .type "list", data := .seq vs.toArray }) (hi : IntsAre vs ns) (hl : ns.length ≤ sizeLine) (hr : Room k callerA)
    (F : ∀ base : Heap, K.In base → base.Ns mainGlobals mg → FnOk P w K mg base CX k fa fd [x] sp) (hbind : ∀ (s : Shared) (u : Value), BindsTo s fd ⟨[u], []⟩ [(x, u)])
    (hsp : ∀ H : Hp, Only H → SqL K H a (ns.map V.int) → sp [.ref a] H (fun v _ => v = .bl true) fun _ _ _ => False)
    (hCX : ∀ H e s', CX [] H s₁ (fun _ _ _ => False) e s' → False) :
    codeAny (model P w) callerA (.call (.ref fa) ⟨[.ref a], []⟩) (fun r s' => r = .ok (.ret (.bool true)) ∧ OldK s₁.heap s'.heap ∧ s'.os = s₁.os ∧ AllBare s'.gens) s₁ := by
  have rv := vals_ints hi
  have lenV := hi.length
  -- from an abstract heap in which nothing but the script may be tracked
  have core : ∀ H : Hp, Only H → SqL K H a (ns.map V.int) → HOk P w H s₁.heap → (∀ b, H b ≠ none → b = a) → (H a ≠ none → K.lookup a = none) →
      codeAny (model P w) callerA (.call (.ref fa) ⟨[.ref a], []⟩) (fun r s' => r = .ok (.ret (.bool true)) ∧ OldK s₁.heap s'.heap ∧ s'.os = s₁.os ∧ AllBare s'.gens) s₁ := by
    intro H hO hS hok hA hK
    have base_of : ∀ {b : Addr} {o : Obj}, s₁.heap.get? b = some o → H b = none → (hidT s₁.heap H).get? b = some o := fun e n => hidT_get e n
    have noA : ∀ {b : Addr} {o : Obj} {es : Array DictEntry} {ep : Nat}, s₁.heap.get? b = some o → o.data = .dict es ep → H b = none := fun {b o es ep} e d => by
      cases q : H b with
      | none => rfl
      | some u =>
        have e' : b = a := hA b (by rw [q]; simp)
        subst e'
        rw [ha] at e; cases e
        have d' : Data.seq vs.toArray _ = Data.dict es ep := d
        cases d'
    have nsK : ∀ {b : Addr} {m : Str → Option Value}, s₁.heap.Ns b m → (hidT s₁.heap H).Ns b m := fun {b m} ⟨o, es, ep, e, d, r⟩ => ⟨o, es, ep, base_of e (noA e d), d, r⟩
    have hKb : K.In (hidT s₁.heap H) := fun b o e => base_of (KX b o e) (by
      cases q : H b with
      | none => rfl
      | some u =>
        have e' : b = a := hA b (by rw [q]; simp)
        subst e'
        rw [hK (by rw [q]; simp)] at e; cases e)
    have hM : Mod K mg (hidT s₁.heap H) := ⟨hKb, nsK hns, ⟨mb, nsK hb, hbb⟩, let ⟨mc, h1, h2⟩ := hlim; ⟨mc, nsK h1, h2⟩⟩
    have e0 : Env0 P w K mg (hidT s₁.heap H) callerA [] s₁ H := ⟨rfl, hM, fun b o e => of_hidT e, Nat.le_of_eq (hidT_size _ _), trivial, fun b hb => absurd (show b ∈ ([] : List Addr) from hb) (by simp), hok, .of_eq hg⟩
    refine codeAny_mono ((F _ hKb (nsK hns)).run callerA [] s₁ H ⟨[.ref a], []⟩ [.ref a] [.ref a] _ _ hr e0 (hbind s₁ (.ref a)) (.cons rfl .nil) (hsp H hO hS)) fun r s' h => ?_
    cases r with
    | error e => exact (hCX H e s' h).elim
    | ok fl =>
      cases fl with
      | next => exact False.elim h
      | brk => exact False.elim h
      | cont => exact False.elim h
      | ret u =>
        obtain ⟨v, H', os, bare, un, hok', r', q⟩ := h
        have q' : v = .bl true := q
        subst q'
        obtain rfl : u = Value.bool true := r'
        refine ⟨rfl, OldK.of_keep fun b o e => ?_, os, bare⟩
        cases q : H b with
        | none => exact un.keep b o e q (by intro z; exact absurd (show b ∈ ([] : List Addr) from z) (by simp)) (by simp)
        | some u =>
          rcases hO b with z | ⟨ob, xs, z⟩
          · rw [q] at z; cases z
          · have z2 := un.frzs b ob _ z
            obtain ⟨e1, _⟩ := hok b _ z
            obtain ⟨e2, _⟩ := hok' b _ z2
            rw [e] at e1; cases e1
            exact e2
  cases hk : K.lookup a with
  | some o =>
    -- the script is one of the module's own objects
    have e := KX a o hk
    rw [ha] at e
    cases e
    refine core (fun _ => none) (fun _ => .inl rfl) (.inr ⟨_, vs.toArray, _, hk, rfl, rfl, rfl, by rw [List.size_toArray, lenV]; exact hl, by simpa using rv⟩) (fun b u z => by have z' : (none : Option HO) = some u := z; cases z') (fun b z => absurd rfl z) fun z => absurd rfl z
  | none =>
    refine core (fun b => if b = a then some (.frz { cls := .type "list", data := .seq vs.toArray } (.lst (ns.map V.int))) else none) (fun b => ?_) (.inl (.inr ⟨{ cls := .type "list", data := .seq vs.toArray }, if_pos rfl⟩)) (fun b u z => ?_) (fun b z => ?_) fun _ => hk
    · by_cases hb : b = a
      · exact .inr ⟨_, _, if_pos hb⟩
      · exact .inl (if_neg hb)
    · by_cases hb : b = a
      · have z' := (if_pos hb).symm.trans z
        cases z'
        subst hb
        exact ⟨ha, by rw [List.length_map]; exact hl, vs, _, rv, ha⟩
      · have z' := (if_neg hb).symm.trans z
        cases z'
    · by_cases hb : b = a
      · exact hb
      · exact absurd (if_neg hb) z
end L2

namespace L2
open PySem PySem.Spec PyProof.Rows

abbrev KOf {K : PySem.W.Frag} {h : Heap} (_ : K.In h) : PySem.W.Frag := K

/-- the goal that k_head leaves (case hc), from the law's promise. F gives the function object fd (K's own) once, then the promise over every base -/
theorem walk_of {l : PySem.W.OpenLaw} {n k : Nat} {q : Program} {loose : List Str} {XP : (Str → Option Value) → Heap → Prop} {YP : World → Heap → Prop} {d : DefRec} {K : Params → PySem.W.Frag} {CX : World → CXT} {sp : World → Sp} {x : Str}
    (hn : l.most = some n) (hn2 : n ≤ sizeLine) (hdf : d.params.defaults = []) (hr : Room k callerA)
    (hY : ∀ (w : World) (h : Heap), YP w h → (K w.params).In h)
    (F : ∀ (w : World) (mg : Str → Option Value) (fa : Addr) (h : Heap), (K w.params).In h → h.Ns mainGlobals mg → mg d.name = some (.ref fa) →
      ∃ fd : FuncData, (∀ (s : Shared) (u : Value), BindsTo s fd ⟨[u], []⟩ [(x, u)]) ∧
        ∀ base : Heap, (K w.params).In base → base.Ns mainGlobals mg → FnOk l.prog w (K w.params) mg base (CX w) k fa fd [x] (sp w))
    (hsp : ∀ (w : World) (H : Hp) (a : Addr) (ns : List Int), ns.length ≤ n → Only H → SqL (K w.params) H a (ns.map V.int) → sp w [.ref a] H (fun v _ => v = .bl true) fun _ _ _ => False)
    (hCX : ∀ (w : World) (H : Hp) (s : Shared) (e : Value) (s' : Shared), CX w [] H s (fun _ _ _ => False) e s' → False) :
    PySem.W.WalkO q loose XP YP l.row.toRowW d [] (fun f vs => PySem.call f vs) := by
  refine Att.attach_call hn hdf fun w s₀ s₁ mg mb fa o pm cd doc a vs ns G Y ho hd hcd hmg hobj hints hlen hg => ?_
  have KX := hY w _ Y
  obtain ⟨fd, hb, hF⟩ := F w mg fa _ KX G.T.g hmg
  exact law_call KX G.T.g G.T.b G.T.builtins G.T.nolimit hg hobj hints (Nat.le_trans hlen hn2) hr hF hb (fun H hO hS => hsp w H a ns hlen hO hS) fun H e s' => hCX w H s₁ e s'
/-- the same where the promise hangs on the written part alone: (sp := My.sp_law), no hole under a binder -/
theorem walk_ofK {l : PySem.W.OpenLaw} {n k : Nat} {q : Program} {loose : List Str} {XP : (Str → Option Value) → Heap → Prop} {YP : World → Heap → Prop} {d : DefRec} {K : Params → PySem.W.Frag} {CX : CXT} {sp : PySem.W.Frag → Sp} {x : Str}
    (hn : l.most = some n) (hn2 : n ≤ sizeLine) (hdf : d.params.defaults = []) (hr : Room k callerA)
    (hY : ∀ (w : World) (h : Heap), YP w h → (K w.params).In h)
    (F : ∀ (w : World) (mg : Str → Option Value) (fa : Addr) (h : Heap), (K w.params).In h → h.Ns mainGlobals mg → mg d.name = some (.ref fa) →
      ∃ fd : FuncData, (∀ (s : Shared) (u : Value), BindsTo s fd ⟨[u], []⟩ [(x, u)]) ∧
        ∀ base : Heap, (K w.params).In base → base.Ns mainGlobals mg → FnOk l.prog w (K w.params) mg base CX k fa fd [x] (sp (K w.params)))
    (hsp : ∀ (K : PySem.W.Frag) (H : Hp) (a : Addr) (ns : List Int), ns.length ≤ n → Only H → SqL K H a (ns.map V.int) → sp K [.ref a] H (fun v _ => v = .bl true) fun _ _ _ => False)
    (hCX : ∀ (H : Hp) (s : Shared) (e : Value) (s' : Shared), CX [] H s (fun _ _ _ => False) e s' → False) :
    PySem.W.WalkO q loose XP YP l.row.toRowW d [] (fun f vs => PySem.call f vs) :=
  walk_of (K := K) (CX := fun _ => CX) (sp := fun w => sp (K w.params)) hn hn2 hdf hr hY F (fun w H a ns h1 h2 h3 => hsp (K w.params) H a ns h1 h2 h3) fun _ H s e s' => hCX H s e s'
end L2

/- THE LAST THEOREM (shape; LID, My.* are yours):
   My.Adr: a structure of the addresses that your layer names (classes, functions); My.Txt K t: a structure (Prop) of the equations over K;
   My.txt_mk : {K} {implicit addresses ..} (e1 : nsIn K mainGlobals "law" = some (some (.ref f))) (e2 : K.lookup f = some ⟨oc, od, .func (fnOf "law" "law" params body scope dV kV doc pm an cdv ct), sl⟩) (e3 : codeIn K cdv "law" = true) .. : ∃ t, My.Txt K t

set_option maxRecDepth 100000 in
set_option maxHeartbeats 0 in
theorem PySem.Challenge.cw_LID_holds : PySem.Challenge.rw_LID.Holds := by
  w_on; o_law; k_head; (case hw => w_witness2)
  k_fill
  refine L2.walk_of (l := PySem.Challenge.rw_LID) (n := 63) (k := 40) (x := "script") (CX := fun w => ..) (sp := fun _ => My.sp_law) rfl (by decide) rfl ⟨rfl, by decide, by decide⟩ (fun w h Y => PySem.W.kIn_of Y) ?F ?S ?C
  case F =>
    intro w mg fa h KX G hmg
    have T : ∃ t, My.Txt (L2.KOf KX) t := by
      dsimp only [L2.KOf]                          -- K must stand as «<heap const> w.params» for k_is
      refine' My.txt_mk ?e1 ?e2 ?e3 ..
      (case e1 => PySem.W.k_is)                    -- in the order: a name -> its address -> its object -> its parts
      (case e2 => PySem.W.k_is)
      ..
    obtain ⟨t, T⟩ := T
    have e0 := hmg.symm.trans (PySem.W.mg_of KX G T.law)
    cases e0                                       -- fa is the law's own address
    exact ⟨_, fun s u => .of_eq rfl, fun base kb nb => My.law_fn T kb nb⟩     -- if «.of_eq rfl» comes too early: refine' ⟨_, ?b, fun base kb nb => My.law_fn T kb nb⟩; exact fun s u => .of_eq rfl
  case S => exact fun w H a ns hl hO hS => ..
  case C => exact ..
(the tactic k_is has no namespace: write k_is) -/

/-! SHORT WORDS over the layer: a def of the text, its body, what a loop and a test want. -/
namespace L2
open PySem PySem.Spec PyProof.Rows

/-! ### the text by places -/
/-- the j-th statement of a class's body -/
def inClass (s : Stmt) (j : Nat) : Stmt := match s with
  | .ClassDef _ _ _ body _ _ _ _ _ _ _ => body.getD j (.Pass ⟨0, 0, 0, 0⟩)
  | _ => .Pass ⟨0, 0, 0, 0⟩
def defArgs (s : Stmt) : Arguments := match s with
  | .FunctionDef _ a _ _ _ _ _ _ _ _ => a
  | _ => { posonlyargs := [], args := [], vararg := none, kwonlyargs := [], kw_defaults := [], kwarg := none, defaults := [] }
def defBody (s : Stmt) : List Stmt := match s with
  | .FunctionDef _ _ b _ _ _ _ _ _ _ => b
  | _ => []
def defScope (s : Stmt) : Scope := match s with
  | .FunctionDef _ _ _ _ _ _ sc _ _ _ => sc
  | _ => { kind := .function, names := [], isGenerator := false, isCoroutine := false }

/-! ### no exception leaves a def -/
abbrev CX0 : CXT := fun _ _ _ _ _ _ => False
abbrev E0 : XK := fun _ _ _ => False
theorem pass0 {X : Cx} : Passes CX0 X E0 := fun _ _ _ _ _ _ _ h => h.elim

/-! ### a def (or method) of the text as it stands behind the top -/
structure Fun (K : PySem.W.Frag) (x qual : Str) (st : Stmt) (f : Addr) (fd : FuncData) : Prop where
  ex : ∃ (oc : Value) (od : Option Addr) (kV doc pm : Value) (an : Option Addr) (cdv ct : Value) (osl : Array (Option Value)),
    fd = PySem.W.fnOf x qual (defArgs st) (defBody st) (defScope st) .none kV doc pm an cdv ct ∧ K.lookup f = some ⟨oc, od, .func fd, osl⟩ ∧ PySem.W.codeIn K cdv qual = true
  kp : PySem.W.keepIn K (.ref f) = true
section
variable {P : Program} {w : World} {K : PySem.W.Frag} {mg : Str → Option Value} {base : Heap}
/-- THE RULE for a def: its body as a term of rules, and the reading of that term -/
theorem Fun.ok {x qual : Str} {st : Stmt} {f : Addr} {fd : FuncData} {N ps : List Str} {k : Nat} {sp : Sp} (F : Fun K x qual st f fd) (S : FnScope N ps (defScope st)) (len : ∀ vs H Q E, sp vs H Q E → vs.length = ps.length)
    (hbody : ∀ (cdv : Value) (A : Around) (outer : List Env) (s : Shared) (H : Hp) (vs : List V) (Q : VK) (E : XK), Room k (A.deeper (envOfC qual (defScope st) s.heap.objs.size f cdv)) → sp vs H Q E →
      ∃ t, PSs (cxOf CX0 P w K mg base N qual (defScope st) f cdv A outer s H E).nox (defBody st) t ∧ t { nx := fun _ H' => Q .non H', rt := Q } (start N vs) H) : FnOk P w K mg base CX0 (k + 1) f fd ps sp := by
  obtain ⟨oc, od, kV, doc, pm, an, cdv, ct, osl, rfl, lk, hcd⟩ := F.ex
  refine fn_of lk hcd S len fun A outer s H vs Q E hr hsp => ?_
  obtain ⟨t, h, q⟩ := hbody cdv A outer s H vs Q E hr hsp
  exact ⟨t, h.nox, q⟩
/-- how its arguments bind (no defaults): h is «fun _ _ _ _ _ _ us hl => match us, hl with | [_, _], _ => rfl», one _ a parameter -/
theorem Fun.binds {x qual : Str} {st : Stmt} {f : Addr} {fd : FuncData} {ps : List Str} (F : Fun K x qual st f fd)
    (h : ∀ (kV doc pm : Value) (an : Option Addr) (cdv ct : Value) (us : List Value), us.length = ps.length → bindArgs (PySem.W.fnOf x qual (defArgs st) (defBody st) (defScope st) .none kV doc pm an cdv ct) ⟨us, []⟩ = pure (ps.zip us)) : Binds K fd ps [] := by
  obtain ⟨oc, od, kV, doc, pm, an, cdv, ct, osl, rfl, lk, hcd⟩ := F.ex
  exact .all (h kV doc pm an cdv ct)
theorem fun_mk {x qual : Str} {st : Stmt} {f : Addr} {oc : Value} {od an : Option Addr} {osl : Array (Option Value)} {kV doc pm cdv ct : Value} (l : K.lookup f = some ⟨oc, od, .func (PySem.W.fnOf x qual (defArgs st) (defBody st) (defScope st) .none kV doc pm an cdv ct), osl⟩)
    (c : PySem.W.codeIn K cdv qual = true) (k : PySem.W.keepIn K (.ref f) = true) : Fun K x qual st f (PySem.W.fnOf x qual (defArgs st) (defBody st) (defScope st) .none kV doc pm an cdv ct) := ⟨⟨oc, od, kV, doc, pm, an, cdv, ct, osl, rfl, l, c⟩, k⟩
end
theorem hu_of {A : Around} {k : Nat} (hr : Room k A) : A.units + 1 < cLine := Nat.lt_of_le_of_lt (Nat.add_le_add_left (by decide : 1 ≤ 64) _) hr.units
theorem small1000 {n : Nat} (h : n ≤ 1000) : n < sizeLine := Nat.lt_of_le_of_lt h (by decide)

/-! ### expressions in short: the name that stands in the i-th slot -/
section
variable {X : Cx}
theorem pv (i : Nat) {x : Str} {pos : Pos} (hN : X.N[i]? = some x := by rfl) (hv : Vis X.env.scope x := by first | exact Or.inl rfl | exact Or.inr (Or.inl rfl) | exact Or.inr (Or.inr rfl)) (hd : (x == ("__debug__" : Str)) = false := by decide)
    (hcd : (x == ("__classdict__" : Str)) = false := by decide) : PE X (.Name x pos) (tVar i) := pe_var hN hv hd hcd
end

/-! ### tests -/
theorem iteF {A B : Prop} (h : B) : if false = true then A else B := by
  rw [if_neg Bool.false_ne_true]
  exact h
theorem iteT {A B : Prop} (h : A) : if true = true then A else B := by
  rw [if_pos rfl]
  exact h
theorem ite2 {c A B : Prop} [Decidable c] (h1 : c → A) (h2 : ¬ c → B) : if c then A else B := by
  by_cases h : c
  · rw [if_pos h]
    exact h1 h
  · rw [if_neg h]
    exact h2 h
theorem iteNS {c A B : Prop} [Decidable c] (hc : c) (h : B) : if (!decide c) = true then A else B := by
  rw [decide_eq_true hc]
  exact iteF h

/-! ### heaps -/
/-- all that was tracked is as it was -/
def Same (H H' : Hp) : Prop := ∀ b o, H b = some o → H' b = some o
theorem Same.refl (H : Hp) : Same H H := fun _ _ h => h
theorem Same.trans {H H1 H2 : Hp} (a : Same H H1) (b : Same H1 H2) : Same H H2 := fun c o h => b c o (a c o h)
theorem Same.free {H H' : Hp} (e : Same H H') {l : Addr} (h : H' l = Option.none) : H l = Option.none := by
  cases q : H l with
  | none => rfl
  | some o =>
    rw [e l o q] at h
    cases h
theorem Same.seq {K : PySem.W.Frag} {H H' : Hp} {a : Addr} {xs : List V} (e : Same H H') (h : SqL K H a xs) : SqL K H' a xs := by
  rcases h with (h | ⟨o, h⟩) | h
  · exact .inl (.inl (e _ _ h))
  · exact .inl (.inr ⟨o, e _ _ h⟩)
  · exact .inr h

end L2

set_option Elab.async false
set_option linter.all false
set_option maxRecDepth 100000
set_option maxHeartbeats 4000000
namespace L2
open PySem PySem.Spec PyProof.Rows

/-! ## M1. whole numbers of many figures -/
/-- of at most n binary figures -/
def Bits (n : Nat) (x : Int) : Prop := x.natAbs < 2 ^ n
theorem Bits.mono {n m : Nat} {x : Int} (h : Bits n x) (l : n ≤ m) : Bits m x := Nat.lt_of_lt_of_le h (Nat.pow_le_pow_right (by decide) l)
theorem Bits.neg {n : Nat} {x : Int} (h : Bits n x) : Bits n (-x) := by
  unfold Bits at *; rw [Int.natAbs_neg]; exact h
theorem Bits.add {n : Nat} {x y : Int} (h : Bits n x) (k : Bits n y) : Bits (n + 1) (x + y) := by
  unfold Bits at *; rw [Nat.pow_succ]; omega
theorem Bits.sub {n : Nat} {x y : Int} (h : Bits n x) (k : Bits n y) : Bits (n + 1) (x - y) := by
  unfold Bits at *; rw [Nat.pow_succ]; omega
theorem Bits.mul {n m : Nat} {x y : Int} (h : Bits n x) (k : Bits m y) : Bits (n + m) (x * y) := by
  unfold Bits at *
  rw [Int.natAbs_mul, Nat.pow_add]
  exact Nat.mul_lt_mul'' h k
theorem Bits.le {n : Nat} {x y : Int} (h : Bits n x) (k : y.natAbs ≤ x.natAbs) : Bits n y := Nat.lt_of_le_of_lt k h
theorem Bits.log2 {n : Nat} {x : Int} (h : Bits n x) (hn : 0 < n) : x.natAbs.log2 < n := by
  by_cases z : x.natAbs = 0
  · rw [z]; exact Nat.lt_of_le_of_lt (by decide) hn
  · exact (Nat.log2_lt z).mpr h
theorem Bits.intBits {n : Nat} {x : Int} (h : Bits n x) : Builtin.Int.intBits x ≤ n := by
  unfold Builtin.Int.intBits
  by_cases z : (x == 0) = true
  · rw [if_pos z]; exact Nat.zero_le _
  · rw [if_neg z]
    have z' : x.natAbs ≠ 0 := by
      intro e; apply z; have : x = 0 := Int.natAbs_eq_zero.mp e; rw [this]; rfl
    exact (Nat.log2_lt z').mpr h
def CMulB (i j : Int) : Prop := ∃ n, n ≤ 1048576 ∧ Bits n i ∧ Bits n j
theorem CMulB.ok {i j : Int} (h : CMulB i j) : IntMulOk i j := by
  obtain ⟨n, hn, h1, h2⟩ := h
  exact .of_bits (Nat.le_trans h1.intBits (Nat.le_trans hn (by decide))) (Nat.le_trans h2.intBits (Nat.le_trans hn (by decide)))
/-- // by any divisor of some figures -/
def CDivB (_ j : Int) : Prop := j ≠ 0 ∧ Bits 9000 j
section
variable {X : Cx}
theorem op_mulB : OpR X (binaryOp .Mult) (rI CMulB fun i j => .int (i * j)) := opI fun _ _ _ _ _ _ _ hc q => mul_int q hc.ok
theorem op_fdivB : OpR X (binaryOp .FloorDiv) (rI CDivB fun i j => .int (i.fdiv j)) := opI fun _ _ _ _ _ _ _ hc q => floordiv_int hc.1 q (.inl (PyProof.noPylong_of_log2 (hc.2.log2 (by decide))))
end

/-! ## M2. records that turn, and a new object that is tracked -/
section
variable {X : Cx} {pins : List (Addr × Obj)} {σ : St} {H : Hp} {s : Shared} {h' : Heap} {ch : List Addr}
theorem Inv.turnedL0 {t' : Nat} (I : Inv X pins σ H s) (k : ∀ b o, b ∉ ch → s.heap.get? b = some o → h'.get? b = some o) (hf : ∀ b ∈ ch, FpOk X pins H b) :
    Inv X pins σ H { s with heap := h', toks := t' } := by
  have nit : ∀ b u, H b = some u → b ∉ ch := fun b u e z => by rw [(hf b z).1] at e; cases e
  refine I.step (g' := s.gens) (d' := s.drawn) (ch := ch) (fun b hb => ⟨(hf b hb).2.2.2.1, (hf b hb).2.1, (hf b hb).2.2.2.2.1, (hf b hb).2.2.2.2.2⟩) (fun b o _ _ hc e _ => k b o hc e) (fun b o _ _ hc e _ => ⟨o.slots, k b o hc e⟩) (fun _ _ _ _ n => n)
    (fun b o hc e => ⟨o, k b o hc e⟩) (fun _ _ e => e) (fun _ _ _ e => e) (fun b ps e => ⟨#[], by rw [e]; simp⟩) (fun m hm => ?_) (fun b u e => ?_) I.bare
  · obtain ⟨o, es, ep, ho, r⟩ := hm
    exact ⟨o, es, ep, k _ o (fun z => (hf _ z).2.1 rfl) ho, r⟩
  · refine (I.hok b u e).stay (fun c v hc q => k c v ?_ q) (fun _ q => q) fun _ _ q => q
    rcases hc with z | z
    · rw [z]; exact nit b u e
    · exact nit c _ z
theorem Inv.turnedNew {t' : Nat} {T : Addr} {o : HO} (I : Inv X pins σ H s) (k : ∀ b o, b ∉ ch → s.heap.get? b = some o → h'.get? b = some o) (hf : ∀ b ∈ ch, FpOk X pins H b)
    (hT : s.heap.objs.size ≤ T) (new : ObjOk X.prog X.w (upd H T o) h' T o) :
    Inv X pins σ (upd H T o) { s with heap := h', toks := t' } := by
  have hn : H T = none := I.hok.fresh hT
  have nT : ∀ b ob, s.heap.get? b = some ob → b ≠ T := fun b ob e => Nat.ne_of_lt (Nat.lt_of_lt_of_le (Heap.lt_size e) hT)
  have nit : ∀ b u, H b = some u → b ∉ ch := fun b u e z => by rw [(hf b z).1] at e; cases e
  refine I.step (g' := s.gens) (d' := s.drawn) (ch := ch) (fun b hb => ⟨(hf b hb).2.2.2.1, (hf b hb).2.1, (hf b hb).2.2.2.2.1, (hf b hb).2.2.2.2.2⟩) (fun b o _ _ hc e _ => k b o hc e) (fun b o _ _ hc e _ => ⟨o.slots, k b o hc e⟩)
    (fun b ob _ e n => by rw [upd_ne (nT b ob e)]; exact n) (fun b o hc e => ⟨o, k b o hc e⟩) (fun b xs e => by rw [upd_ne (ne_of_none e hn)]; exact e) (fun b ob u e => by rw [upd_ne (ne_of_none e hn)]; exact e)
    (fun b ps e => ⟨#[], by rw [upd_ne (ne_of_none e hn), e]; simp⟩) (fun m hm => ?_) (fun b u e => ?_) I.bare
  · obtain ⟨ob, es, ep, ho, r⟩ := hm
    exact ⟨ob, es, ep, k _ ob (fun z => (hf _ z).2.1 rfl) ho, r⟩
  · by_cases hb : b = T
    · subst hb
      rw [upd_same] at e
      cases e
      exact new
    · rw [upd_ne hb] at e
      refine (I.hok b u e).stay (fun c v hc q => k c v ?_ q) (fun c q => by rw [upd_ne (ne_of_none q hn)]; exact q) fun c xs q => by rw [upd_ne (ne_of_none q hn)]; exact q
      rcases hc with z | z
      · rw [z]; exact nit b u e
      · exact nit c _ z
end

/-! ## M3. enumerate(a list), with a tuple as the target -/
/-- b: a tuple, else a list -/
def SqB (K : PySem.W.Frag) (b : Bool) (H : Hp) (a : Addr) (xs : List V) : Prop := bif b then SqT K H a xs else SqL K H a xs
section
variable {X : Cx} {pins : List (Addr × Obj)} {σ : St} {H : Hp} {s : Shared} {a c : Addr} {xs ys : List V} {b : Bool}
theorem Inv.awayK (I : Inv X pins σ H s) (f : FpOk X pins H c) {o : Obj} (h : X.K.lookup a = some o) : a ≠ c := by
  intro z
  have h1 := I.mod.kin a o h
  have h2 := (I.ok.bs a o h1).1
  rcases f.2.2.2.1 with q | q
  · exact I.ok.noex a o h1 (by rw [z]; exact q)
  · rw [← z] at q; exact absurd (Nat.lt_of_lt_of_le (Heap.lt_size h2) q) (Nat.lt_irrefl _)
theorem Inv.away (I : Inv X pins σ H s) (f : FpOk X pins H c) (h : SqB X.K b H a xs) : a ≠ c := by
  have no : ∀ {u : HO}, H a = some u → a ≠ c := fun e z => by rw [z, f.1] at e; cases e
  cases b
  · rcases (show SqL X.K H a xs from h) with (e | ⟨o, e⟩) | ⟨o, its, n, e, _⟩
    · exact no e
    · exact no e
    · exact I.awayK f e
  · rcases (show SqT X.K H a xs from h) with (e | ⟨o, e⟩) | ⟨o, its, n, e, _⟩
    · exact no e
    · exact no e
    · exact I.awayK f e
end
def Ite (K : PySem.W.Frag) (a : Addr) : It :=
  ⟨fun i H => ∃ xs x, SqL K H a xs ∧ xs[i]? = some x,
   fun i H x H' => ∃ T v, x = .ref T ∧ H T = none ∧ H' = upd H T (.tup [.int (i : Nat), v]) ∧ ∀ xs, SqL K H a xs → xs[i]? = some v,
   fun i H => ∃ xs, SqL K H a xs ∧ xs.length ≤ i⟩
theorem turn_enum {P : Program} {w : World} {K : PySem.W.Frag} {es : List Expr} {k : Nat} {pos : Pos} (a e it : Addr) (hei : e ≠ it) :
    Turn P w K (.Tuple es k pos) (Ite K a) [e, it] e (fun i h => (∃ old, IsEnum h e it i old) ∧ h.IsListIter it a i) where
  mem := by simp
  obj := fun i h st b hb => by
    obtain ⟨⟨old, h1⟩, o, h2, c, d⟩ := st
    have hb' : b = e ∨ b = it := by simpa using hb
    rcases hb' with z | z
    · subst z
      exact ⟨_, h1, fun v z => by
        have z' : Data.fields _ = Data.cell v := z
        cases z'⟩
    · subst z; exact ⟨o, h2, fun v z => by rw [d] at z; cases z⟩
  keep := fun i h h' st kk => by
    obtain ⟨⟨old, h1⟩, st2⟩ := st
    exact ⟨⟨old, kk e (by simp) _ h1⟩, st2.at fun o q => kk it (by simp) o q⟩
  item := by
    intro X hP hw hK hc i pins s σ H E I hf st hg
    subst hP hw hK
    obtain ⟨xs, x, hq, hx⟩ := hg
    obtain ⟨its, rv, p, hz⟩ := I.list hq
    obtain ⟨u, hu, ru⟩ := rv.get hx
    obtain ⟨⟨old, he⟩, hit⟩ := st
    have hne : a ≠ it := I.away (b := false) (hf it (by simp)) hq
    have hea : e ≠ a := fun z => I.away (b := false) (hf e (by simp)) hq z.symm
    have D := Draws.list (prog := X.prog) (w := X.w) (A := X.A.in1) (I.ok.hd hc) it a hne its.toArray
    have hlt : i < its.toArray.size := by
      have := (List.getElem?_eq_some_iff.mp hu).1
      simpa using this
    refine wpAny_pyNext_enum_itemD D he ⟨hit, p.isList⟩ hlt hei (by simp [hei, hea]) fun y h1 tk hy ho hst ht hsz hk => ?_
    have ey : y = u := by
      have h2 : its[i]? = some y := by simpa using hy
      rw [hu] at h2; cases h2; rfl
    subst ey
    refine ⟨_, rfl, ?_⟩
    have hTe : s.heap.objs.size ≠ e := Nat.ne_of_gt (Heap.lt_size he)
    refine wpAny_letOwnedTupleGo_enum ho fun h2 he2 hs2 => ?_
    have hs2' : Heap.SameBut e h1 h2 := hs2
    have kk : ∀ b o, b ∉ [e, it] → s.heap.get? b = some o → h2.get? b = some o := fun b o hb q => by
      have hb' : b ≠ e ∧ b ≠ it := by simpa using hb
      exact (hs2'.2 b hb'.1).trans (hk b o hb'.1 hb'.2 q)
    have hT2 : h2.get? s.heap.objs.size = some { cls := .type "tuple", data := .seq #[.int i tk, y] } := (hs2'.2 _ hTe).trans ht
    have new : ObjOk X.prog X.w (upd H s.heap.objs.size (.tup [.int (i : Nat), x])) h2 s.heap.objs.size (.tup [.int (i : Nat), x]) :=
      ⟨by show 2 ≤ sizeLine; decide, [.int i tk, y], .cons ⟨tk, rfl⟩ (.cons ru .nil), ⟨_, hT2, rfl, _, rfl⟩⟩
    have hnT : H s.heap.objs.size = none := I.hok.fresh (Nat.le_refl _)
    refine ⟨.ref s.heap.objs.size, upd H s.heap.objs.size (.tup [.int (i : Nat), x]), I.turnedNew kk hf (Nat.le_refl _) new, rfl, ⟨_, x, rfl, hnT, rfl, fun ys hy' => by rw [I.list_inj hy' hq]; exact hx⟩,
      ⟨⟨_, by simpa using he2⟩, hst.1.at fun o q => (hs2'.2 it (Ne.symm hei)).trans q⟩, fun b hb => ?_⟩
    have hne2 : b ≠ s.heap.objs.size := by
      have hb' : b = e ∨ b = it := by simpa using hb
      rcases hb' with z | z
      · rw [z]; exact Ne.symm hTe
      · obtain ⟨o, q, _⟩ := hit
        rw [z]; exact Nat.ne_of_lt (Heap.lt_size q)
    rw [upd_ne hne2]
    exact (hf b hb).1
  done := by
    intro X hP hw hK hc i pins s σ H E I hf st hg
    subst hP hw hK
    obtain ⟨xs, hq, hx⟩ := hg
    obtain ⟨its, rv, p, hz⟩ := I.list hq
    obtain ⟨⟨old, he⟩, hit⟩ := st
    have hl := rv.length
    -- at the end the iterator yields no more
    have hT : s.TypeIs (.ref e) "enumerate" := ⟨_, he, rfl⟩
    unfold pyNext
    refine wpAny_bind (wpAny_attempt (wpAny_callSpecial?_slot (name := Str.ofString "__next__") hT F.slot_enumerate_next
      (wpAny_call_entry F.slot_enumerate_next hT F.entry_enumerate_next ?_ (F.args_enumerate_next_1 _))))
    show wpAny _ _ (field (.ref e) 2 >>= _) _ _ _
    refine wpAny_bind (wpAny_field he rfl (x := .ref it) rfl ?_)
    refine wpAny_bind (wpAny_nextOf_list_end (A := X.A.in1) (I.ok.hd hc) hit p.isList (by simp; omega) fun h1 ex hx1 hx2 => ?_)
    obtain ⟨o, ho, hcc⟩ := hx2
    refine wpAny_bind (wpAny_isInstance (T := "StopIteration") (b := true) ⟨o, ho, hcc⟩ isSubtype_stop ?_)
    refine wpAny_pure ⟨rfl, ?_⟩
    obtain ⟨f0, f1, f2, f3, f4, f5⟩ := hf it (by simp)
    exact I.turned (t' := s.toks) (fun b o hb q => hx1 b o hb q) f0 f1 f3 f4 f5
  self := fun _ _ _ _ _ st h => by
    obtain ⟨⟨old, he⟩, _⟩ := st
    exact wpAny_pyIter_enum he h
section
variable {X : Cx} {es : List Expr} {k : Nat} {tpos : Pos}
def iEnum (K : PySem.W.Frag) (ta : TA) : TI := fun σ H R => ta σ H fun vs H1 => ∃ a, vs = [.ref a] ∧ (∃ xs, SqL K H1 a xs) ∧ R (Ite K a) H1
theorem pi_enum {e : Expr} {ta : TA} {p pos : Pos} (hg : Gl X "enumerate") (hm : X.mg "enumerate" = none) (ha : PA X [e] ta) (hs : starEach [e] X.env = [(false, eval e X.env)] := by rfl) :
    PI X (.Tuple es k tpos) (.Call (.Name "enumerate" p) [e] [] pos) (iEnum X.K ta) := by
  intro pins s σ H R I h
  refine Call_ (ld_blt I hg hm (u := .type "enumerate") (by rfl) (PyProof.Rows.callWith_type1 (thn (ha pos pins s σ H _ I h) fun us s1 ⟨vs, H1, I1, r1, q1⟩ => ?_) hs rfl))
  obtain ⟨a, rfl, ⟨xs, hq⟩, q⟩ := q1
  obtain ⟨u, rfl, r⟩ := vals1 r1
  obtain rfl : u = Value.ref a := r
  obtain ⟨its, rv, p, hz⟩ := I1.list hq
  refine call_enumerate_list p.isList fun h1 h2 h3 h4 h5 => ?_
  refine wpAny_pyIter_enum h2 ?_
  have I2 : Inv X pins σ H1 { s1 with heap := h1 } := I1.kept (t' := s1.toks) h5
  refine ⟨s1.heap.objs.size + 1, [s1.heap.objs.size + 1, s1.heap.objs.size], _, _, H1, rfl, I2, turn_enum a _ _ (Nat.succ_ne_self _), ⟨⟨_, h2⟩, h3⟩, fun b hb => ?_, q⟩
  have hb' : b = s1.heap.objs.size + 1 ∨ b = s1.heap.objs.size := by simpa using hb
  have hle : s1.heap.objs.size ≤ b := by rcases hb' with z | z <;> rw [z] <;> first | exact Nat.le_add_right _ _ | exact Nat.le_refl _
  exact I1.fpOk hle (I1.hok.fresh hle)
end
/-- over enumerate of a list that the body leaves as it is -/
theorem for_enum {K : PySem.W.Frag} {a : Addr} {xs : List V} {g : TG} {tb : TS} {D : Ends} {σ : St} {H : Hp} (Pv : Nat → St → Hp → Prop) (h0 : Pv 0 σ H) (hl : ∀ i σ H, i ≤ xs.length → Pv i σ H → SqL K H a xs)
    (hs : ∀ i x T σ H, xs[i]? = some x → H T = none → Pv i σ H → g (.ref T) σ (upd H T (.tup [.int (i : Nat), x])) fun σ2 H2 => tb { D with nx := Pv (i + 1), ct := Pv (i + 1), bk := D.nx } σ2 H2) (hd : ∀ σ H, Pv xs.length σ H → D.nx σ H) :
    ∃ W : Nat → Nat → St → Hp → Prop, (∃ m, W 0 m σ H) ∧ ∀ i m σ H, W i m σ H →
      ((Ite K a).stop i H ∧ D.nx σ H) ∨ ((Ite K a).go i H ∧ ∃ N : St → Hp → Prop, (∀ σ' H', N σ' H' → ∃ m', m' < m ∧ W (i + 1) m' σ' H') ∧ ∀ x H', (Ite K a).yld i H x H' → g x σ H' fun σ2 H2 => tb { D with nx := N, ct := N, bk := D.nx } σ2 H2) := by
  refine ⟨fun i m σ H => m = xs.length - i ∧ i ≤ xs.length ∧ Pv i σ H, ⟨xs.length, by simp, Nat.zero_le _, h0⟩, ?_⟩
  rintro i m σ H ⟨rfl, hi, p⟩
  have q := hl i σ H hi p
  by_cases hlt : i < xs.length
  · refine .inr ⟨⟨xs, xs[i], q, by simp [hlt]⟩, Pv (i + 1), fun σ' H' p' => ⟨xs.length - (i + 1), by omega, rfl, hlt, p'⟩, fun x H' y => ?_⟩
    obtain ⟨T, v, e1, e2, e3, y⟩ := y
    subst e1 e3
    exact hs i v T σ _ (y xs q) e2 p
  · have e : i = xs.length := by omega
    subst e
    exact .inl ⟨⟨xs, q, Nat.le_refl _⟩, hd σ H p⟩
end L2

set_option Elab.async false
set_option linter.all false
set_option maxRecDepth 100000
set_option maxHeartbeats 4000000
namespace L2
open PySem PySem.Spec PyProof.Rows

/-! ## M4. zip of two lists or tuples -/
/-- b: a tuple, else a list -/
def SeqAt (h : Heap) (b : Bool) (l : Addr) (xs : Array Value) : Prop := bif b then h.IsTuple l xs else h.IsList l xs
def SItAt (h : Heap) (b : Bool) (it l : Addr) (i : Nat) : Prop := bif b then h.IsTupleIter it l i else h.IsListIter it l i
def itObj (b : Bool) (l : Addr) : Obj := { cls := .type (bif b then "tuple_iterator" else "list_iterator"), data := .fields #[.ref l, .int 0 0] }
theorem SeqAt.but {h h' : Heap} {b : Bool} {l c : Addr} {xs : Array Value} (x : SeqAt h b l xs) (e : Heap.ExtBut c h h') (n : l ≠ c) : SeqAt h' b l xs := by
  cases b
  · exact Heap.IsList.extBut x e n
  · exact Heap.IsTuple.extBut x e n
theorem SItAt.but {h h' : Heap} {b : Bool} {it l c : Addr} {i : Nat} (x : SItAt h b it l i) (e : Heap.ExtBut c h h') (n : it ≠ c) : SItAt h' b it l i := by
  cases b
  · exact Heap.IsListIter.extBut x e n
  · exact Heap.IsTupleIter.extBut x e n
theorem SItAt.keep {h h' : Heap} {b : Bool} {it l : Addr} {i : Nat} (x : SItAt h b it l i) (k : ∀ o, h.get? it = some o → h'.get? it = some o) : SItAt h' b it l i := by
  cases b
  · obtain ⟨o, e, r⟩ := (show h.IsListIter it l i from x); exact ⟨o, k o e, r⟩
  · obtain ⟨o, e, r⟩ := (show h.IsTupleIter it l i from x); exact ⟨o, k o e, r⟩
theorem SItAt.there {h : Heap} {b : Bool} {it l : Addr} {i : Nat} (x : SItAt h b it l i) : ∃ o, h.get? it = some o ∧ ∀ v, o.data ≠ .cell v := by
  cases b
  · obtain ⟨o, e, c, d⟩ := (show h.IsListIter it l i from x); exact ⟨o, e, fun v z => by rw [d] at z; cases z⟩
  · obtain ⟨o, e, c, d⟩ := (show h.IsTupleIter it l i from x); exact ⟨o, e, fun v z => by rw [d] at z; cases z⟩
section
variable {prog : Program} {w : World} {A : Around} {E : Value → Shared → Prop} {s : Shared}
theorem seq_iter {b : Bool} {l : Addr} {xs : Array Value} {Q : Value → Shared → Prop} (hl : SeqAt s.heap b l xs) (hQ : Q (.ref s.heap.objs.size) { s with heap := s.heap.push (itObj b l) }) : wpAny (model prog w) A (pyIter (.ref l)) Q E s := by
  cases b
  · exact wpAny_pyIter_list hl hQ
  · exact wpAny_pyIter_tuple hl hQ
theorem tup_draw {it t : Addr} {i : Nat} {its : Array Value} {x : Value} {Q : Value → Shared → Prop} (hit : s.heap.IsTupleIter it t i) (ht : s.heap.IsTuple t its) (hx : its[i]? = some x)
    (hQ : ∀ h1, h1.IsTupleIter it t (i + 1) → Heap.SameBut it s.heap h1 → Q x { s with heap := h1 }) : wpAny (model prog w) A (Builtin.SmallTypes.nextOf (.ref it)) Q E s := by
  obtain ⟨ob, hob, hcl, hdt⟩ := id hit
  obtain ⟨ot, hot, _, nt, hds⟩ := ht
  unfold Builtin.SmallTypes.nextOf
  refine wpAny_bind (wpAny_callSpecial?_slot (name := Str.ofString "__next__") hit.typeIs F.slot_tuple_iterator_next (wpAny_call_entry F.slot_tuple_iterator_next hit.typeIs F.entry_tuple_iterator_next ?_ (F.args_tuple_iterator_next_1 _)))
  show wpAny _ _ (field (.ref it) 0 >>= _) _ _ _
  refine wpAny_bind (wpAny_field hob hdt (x := .ref t) rfl ?_)
  show wpAny _ _ (if (Value.ref t == Value.none) = true then _ else _) _ _ _
  rw [if_neg (by simp)]
  show wpAny _ _ (field (.ref it) 1 >>= _) _ _ _
  refine wpAny_bind (wpAny_field hob hdt (x := .int i 0) rfl ?_)
  show wpAny _ _ (seqItems? (.ref t) >>= _) _ _ _
  refine wpAny_bind (wpAny_seqItems hot hds ?_)
  simp only [Int.toNat_natCast, hx]
  refine wpAny_bind (wpAny_setField hob hdt (by simp) (wpAny_pure ⟨x, rfl, wpAny_pure (hQ _ ⟨_, Heap.get?_update_self _ hob (Obj.isFreed_of_fields (Obj.data_mapFields hdt _)), (Obj.cls_mapFields ..).trans hcl, ?_⟩ (Heap.SameBut.update ..))⟩))
  rw [Obj.data_mapFields hdt]; simp [rawInt]
theorem tup_drawn {it t : Addr} {i : Nat} {its : Array Value} {Q : Value → Shared → Prop} (hh : A.handled = none) (hit : s.heap.IsTupleIter it t i) (ht : s.heap.IsTuple t its) (hx : its[i]? = none)
    (hE : ∀ h1 e, Heap.ExtBut it s.heap h1 → (∃ o, h1.get? e = some o ∧ o.cls = .type "StopIteration") → E (.ref e) { s with heap := h1 }) : wpAny (model prog w) A (Builtin.SmallTypes.nextOf (.ref it)) Q E s := by
  obtain ⟨ob, hob, hcl, hdt⟩ := id hit
  obtain ⟨ot, hot, _, nt, hds⟩ := ht
  unfold Builtin.SmallTypes.nextOf
  refine wpAny_bind (wpAny_callSpecial?_slot (name := Str.ofString "__next__") hit.typeIs F.slot_tuple_iterator_next (wpAny_call_entry F.slot_tuple_iterator_next hit.typeIs F.entry_tuple_iterator_next ?_ (F.args_tuple_iterator_next_1 _)))
  show wpAny _ _ (field (.ref it) 0 >>= _) _ _ _
  refine wpAny_bind (wpAny_field hob hdt (x := .ref t) rfl ?_)
  show wpAny _ _ (if (Value.ref t == Value.none) = true then _ else _) _ _ _
  rw [if_neg (by simp)]
  show wpAny _ _ (field (.ref it) 1 >>= _) _ _ _
  refine wpAny_bind (wpAny_field hob hdt (x := .int i 0) rfl ?_)
  show wpAny _ _ (seqItems? (.ref t) >>= _) _ _ _
  refine wpAny_bind (wpAny_seqItems hot hds ?_)
  simp only [Int.toNat_natCast, hx]
  refine wpAny_bind (wpAny_rule (wpAny_bind (wpAny_setField hob hdt (by simp) ?_)))
  show wpAny _ _ (newExc (.type "StopIteration") [] >>= _) _ _ _
  refine wpAny_bind ?_
  simp only [newExc, newTuple]
  refine wpAny_bind (wpAny_newObj_type ?_ (by size_fits))
  refine wpAny_bind (m := firstArgMember _ _) (wpAny_of_eq (a := Value.none) (by first | rfl | (simp only [firstArgMember]; rfl)) (wpAny_newObj_type ?_ (by size_fits)))
  simp only [raiseNew]
  refine wpAny_bind (wpAny_handled ?_)
  first | rw [show A.in1.handled = none from hh] | rw [hh]
  exact wpAny_bind (wpAny_pure (wpAny_throw (hE _ _ (((Heap.SameBut.update ..).extBut.push _).push _) ⟨_, Heap.get?_push_size _ rfl, rfl⟩)))
theorem seq_draw {b : Bool} {it l : Addr} {i : Nat} {xs : Array Value} {x : Value} {Q : Value → Shared → Prop} (hit : SItAt s.heap b it l i) (hl : SeqAt s.heap b l xs) (hx : xs[i]? = some x)
    (hQ : ∀ h1, SItAt h1 b it l (i + 1) → Heap.SameBut it s.heap h1 → Q x { s with heap := h1 }) : wpAny (model prog w) A (Builtin.SmallTypes.nextOf (.ref it)) Q E s := by
  cases b
  · exact wpAny_nextOf_list_item hit hl hx hQ
  · exact tup_draw hit hl hx hQ
theorem seq_drawn {b : Bool} {it l : Addr} {i : Nat} {xs : Array Value} {Q : Value → Shared → Prop} (hh : A.handled = none) (hit : SItAt s.heap b it l i) (hl : SeqAt s.heap b l xs) (hx : xs[i]? = none)
    (hE : ∀ h1 e, Heap.ExtBut it s.heap h1 → (∃ o, h1.get? e = some o ∧ o.cls = .type "StopIteration") → E (.ref e) { s with heap := h1 }) : wpAny (model prog w) A (Builtin.SmallTypes.nextOf (.ref it)) Q E s := by
  cases b
  · exact wpAny_nextOf_list_end hh hit hl hx hE
  · exact tup_drawn hh hit hl hx hE

/-- the records of a zip lie apart -/
structure ZA (z TI TO i1 i2 : Addr) : Prop where
  a1 : TI ≠ z
  a2 : TO ≠ z
  a3 : i1 ≠ z
  a4 : i2 ≠ z
  a5 : TI ≠ TO
  a6 : TI ≠ i1
  a7 : TI ≠ i2
  a8 : TO ≠ i1
  a9 : TO ≠ i2
  a0 : i1 ≠ i2
/-- what stands away from them -/
def Off (z TI TO i1 i2 l : Addr) : Prop := l ≠ z ∧ l ≠ TO ∧ l ≠ i1 ∧ l ≠ i2

theorem zipN_item {b1 b2 : Bool} {z TI TO i1 i2 l1 l2 : Addr} {k : Nat} {xs ys : Array Value} {x y p q : Value} {Q : Value → Shared → Prop} (D : ZA z TI TO i1 i2) (f1 : Off z TI TO i1 i2 l1) (f2 : Off z TI TO i1 i2 l2)
    (hz : IsZip s.heap z TI TO .none) (hI : IsPair s.heap TI (.ref i1) (.ref i2)) (hO : IsPair s.heap TO p q) (h1 : SItAt s.heap b1 i1 l1 k) (h2 : SItAt s.heap b2 i2 l2 k) (hl1 : SeqAt s.heap b1 l1 xs) (hl2 : SeqAt s.heap b2 l2 ys) (hx : xs[k]? = some x) (hy : ys[k]? = some y)
    (hQ : ∀ g, IsZip g z TI TO (rawInt s.heap.objs.size) → IsPair g TO x y → SItAt g b1 i1 l1 (k + 1) → SItAt g b2 i2 l2 (k + 1) → IsPair g s.heap.objs.size x y →
      (∀ c o, c ≠ z → c ≠ TO → c ≠ i1 → c ≠ i2 → s.heap.get? c = some o → g.get? c = some o) → Q (.ref s.heap.objs.size) { s with heap := g }) :
    wpAny (model prog w) A (Builtin.«zip.__next__» ⟨[.ref z], []⟩) (fun fin s1 => ∃ v, fin = .done (.ret v) ∧ Q v s1) E s := by
  show wpAny _ _ (field (.ref z) 2 >>= _) _ _ _
  refine wpAny_bind (wpAny_field hz rfl (x := .bool false) rfl ?_)
  show wpAny _ _ (field (.ref z) 3 >>= _) _ _ _
  refine wpAny_bind (wpAny_field hz rfl (x := .ref TI) rfl (wpAny_bind (wpAny_seqItems hI rfl ?_)))
  show wpAny _ _ (Builtin.SmallTypes.ownedTupleIsFree (.ref z) >>= _) _ _ _
  refine wpAny_bind ?_
  unfold Builtin.SmallTypes.ownedTupleIsFree
  refine wpAny_bind (wpAny_field hz rfl (x := .none) rfl (wpAny_pure ?_))
  simp only [if_true]
  refine wpAny_bind (wpAny_rule (wpAny_bind (wpAny_field hz rfl (x := .ref TO) rfl (wpAny_bind (wpAny_setField_rec hz (by simp) fun g1 z1 e1 => ?_)))))
  replace z1 : IsZip g1 z TI TO .ellipsis := z1
  refine wpAny_bind ?_
  simp only [List.zipIdx_cons, List.zipIdx_nil, List.forIn_cons, List.forIn_nil]
  refine wpAny_bind (wpAny_bind (wpAny_onRaise ?_))
  show wpAny _ _ (Builtin.SmallTypes.nextOf (.ref i1) >>= _) _ _ _
  refine wpAny_bind (seq_draw (h1.but e1.extBut D.a3) (hl1.but e1.extBut f1.1) hx fun g2 j2 e2 => wpAny_pure ?_)
  have o2 : IsPair g2 TO p q := e2.extBut _ _ D.a8 (e1.extBut _ _ D.a2 hO)
  refine wpAny_bind (wpAny_seqItems o2 rfl (wpAny_bind (wpAny_updateSeq_pair o2 fun g3 o3 e3 => ?_)))
  replace o3 : IsPair g3 TO x q := o3
  refine wpAny_bind (wpAny_letGo (wpAny_pure (wpAny_bind (wpAny_bind (wpAny_onRaise ?_)))))
  show wpAny _ _ (Builtin.SmallTypes.nextOf (.ref i2) >>= _) _ _ _
  refine wpAny_bind (seq_draw (((h2.but e1.extBut D.a4).but e2.extBut D.a0.symm).but e3.extBut D.a9.symm) (((hl2.but e1.extBut f2.1).but e2.extBut f2.2.2.1).but e3.extBut f2.2.1) hy fun g4 j4 e4 => wpAny_pure ?_)
  have o4 : IsPair g4 TO x q := e4.extBut _ _ D.a9 o3
  refine wpAny_bind (wpAny_seqItems o4 rfl (wpAny_bind (wpAny_updateSeq_pair o4 fun g5 o5 e5 => ?_)))
  replace o5 : IsPair g5 TO x y := o5
  refine wpAny_bind (wpAny_letGo (wpAny_pure (wpAny_pure (wpAny_bind (wpAny_seqItems o5 rfl (wpAny_bind (wpAny_newTuple ?_)))))))
  have sz : g5.objs.size = s.heap.objs.size := by rw [e5.1, e4.1, e3.1, e2.1, e1.1]
  have z5 : IsZip g5 z TI TO .ellipsis := e5.extBut _ _ D.a2.symm (e4.extBut _ _ D.a4.symm (e3.extBut _ _ D.a2.symm (e2.extBut _ _ D.a3.symm z1)))
  have k5 : ∀ c o, c ≠ z → c ≠ TO → c ≠ i1 → c ≠ i2 → s.heap.get? c = some o → g5.get? c = some o := fun c o c1 c2 c3 c4 e => e5.extBut _ _ c2 (e4.extBut _ _ c4 (e3.extBut _ _ c2 (e2.extBut _ _ c3 (e1.extBut _ _ c1 e))))
  have j5 : SItAt g5 b1 i1 l1 (k + 1) := ((j2.but e3.extBut D.a8.symm).but e4.extBut D.a0).but e5.extBut D.a8.symm
  have j6 : SItAt g5 b2 i2 l2 (k + 1) := j4.but e5.extBut D.a9.symm
  have lz : z < g5.objs.size := Heap.lt_size z5
  show wpAny _ _ (Builtin.SmallTypes.ownedTupleHandOut (.ref z) (.ref g5.objs.size) >>= _) _ _ _
  refine wpAny_bind ?_
  unfold Builtin.SmallTypes.ownedTupleHandOut
  have z6 : IsZip (g5.push { cls := .type "tuple", data := .seq #[x, y] }) z TI TO .ellipsis := Heap.get?_push_of_some _ z5
  refine wpAny_bind (wpAny_setField_rec z6 (by simp) fun g7 z7 e7 => ?_)
  replace z7 : IsZip g7 z TI TO (rawInt g5.objs.size) := z7
  refine wpAny_setField_rec z7 (by simp) fun g8 z8 e8 => ?_
  replace z8 : IsZip g8 z TI TO (rawInt g5.objs.size) := z8
  have up : ∀ c o, c ≠ z → g5.get? c = some o → g8.get? c = some o := fun c o c1 e => e8.extBut _ _ c1 (e7.extBut _ _ c1 (Heap.get?_push_of_some _ e))
  have t8 : IsPair g8 g5.objs.size x y := e8.extBut _ _ (Nat.ne_of_gt lz) (e7.extBut _ _ (Nat.ne_of_gt lz) (Heap.get?_push_size _ rfl))
  rw [sz] at z8 t8
  refine wpAny_pure ⟨_, rfl, ?_⟩
  show Q (.ref g5.objs.size) _
  rw [sz]
  exact hQ g8 z8 (up _ _ D.a2 o5) (j5.keep fun o e => up _ o D.a3 e) (j6.keep fun o e => up _ o D.a4 e) t8 fun c o c1 c2 c3 c4 e => up c o c1 (k5 c o c1 c2 c3 c4 e)

theorem zipN_end {b1 b2 : Bool} {z TI TO i1 i2 l1 l2 : Addr} {k : Nat} {xs ys : Array Value} {p q : Value} {Q : Fin → Shared → Prop} (hh : A.handled = none) (D : ZA z TI TO i1 i2) (f1 : Off z TI TO i1 i2 l1) (f2 : Off z TI TO i1 i2 l2)
    (hz : IsZip s.heap z TI TO .none) (hI : IsPair s.heap TI (.ref i1) (.ref i2)) (hO : IsPair s.heap TO p q) (h1 : SItAt s.heap b1 i1 l1 k) (h2 : SItAt s.heap b2 i2 l2 k) (hl1 : SeqAt s.heap b1 l1 xs) (hl2 : SeqAt s.heap b2 l2 ys) (he : xs[k]? = none ∨ ys[k]? = none)
    (hE : ∀ g e, (∀ c o, c ≠ z → c ≠ TO → c ≠ i1 → c ≠ i2 → s.heap.get? c = some o → g.get? c = some o) → (∃ o, g.get? e = some o ∧ o.cls = .type "StopIteration") → E (.ref e) { s with heap := g }) :
    wpAny (model prog w) A (Builtin.«zip.__next__» ⟨[.ref z], []⟩) Q E s := by
  show wpAny _ _ (field (.ref z) 2 >>= _) _ _ _
  refine wpAny_bind (wpAny_field hz rfl (x := .bool false) rfl ?_)
  show wpAny _ _ (field (.ref z) 3 >>= _) _ _ _
  refine wpAny_bind (wpAny_field hz rfl (x := .ref TI) rfl (wpAny_bind (wpAny_seqItems hI rfl ?_)))
  show wpAny _ _ (Builtin.SmallTypes.ownedTupleIsFree (.ref z) >>= _) _ _ _
  refine wpAny_bind ?_
  unfold Builtin.SmallTypes.ownedTupleIsFree
  refine wpAny_bind (wpAny_field hz rfl (x := .none) rfl (wpAny_pure ?_))
  simp only [if_true]
  refine wpAny_bind (wpAny_rule (wpAny_bind (wpAny_field hz rfl (x := .ref TO) rfl (wpAny_bind (wpAny_setField_rec hz (by simp) fun g1 z1 e1 => ?_)))))
  replace z1 : IsZip g1 z TI TO .ellipsis := z1
  refine wpAny_bind ?_
  simp only [List.zipIdx_cons, List.zipIdx_nil, List.forIn_cons, List.forIn_nil]
  refine wpAny_bind (wpAny_bind (wpAny_onRaise ?_))
  show wpAny _ _ (Builtin.SmallTypes.nextOf (.ref i1) >>= _) _ _ _
  cases hx : xs[k]? with
  | none =>
    refine wpAny_bind (seq_drawn hh (h1.but e1.extBut D.a3) (hl1.but e1.extBut f1.1) hx fun g2 e e2 hs => ?_)
    obtain ⟨oe, hoe, hce⟩ := hs
    have z2 : IsZip g2 z TI TO .ellipsis := e2 _ _ D.a3.symm z1
    have ne : e ≠ z := fun x => by subst x; rw [z2] at hoe; cases hoe; simp at hce
    exact wpAny_setField_rec z2 (by simp) fun g3 _ e3 => hE g3 e (fun c o c1 _ c3 _ x => e3.extBut _ _ c1 (e2 _ _ c3 (e1.extBut _ _ c1 x))) ⟨oe, e3.extBut _ _ ne hoe, hce⟩
  | some x =>
    have hy : ys[k]? = none := by
      rcases he with h | h
      · rw [hx] at h; cases h
      · exact h
    refine wpAny_bind (seq_draw (h1.but e1.extBut D.a3) (hl1.but e1.extBut f1.1) hx fun g2 j2 e2 => wpAny_pure ?_)
    have o2 : IsPair g2 TO p q := e2.extBut _ _ D.a8 (e1.extBut _ _ D.a2 hO)
    refine wpAny_bind (wpAny_seqItems o2 rfl (wpAny_bind (wpAny_updateSeq_pair o2 fun g3 o3 e3 => ?_)))
    refine wpAny_bind (wpAny_letGo (wpAny_pure (wpAny_bind (wpAny_bind (wpAny_onRaise ?_)))))
    show wpAny _ _ (Builtin.SmallTypes.nextOf (.ref i2) >>= _) _ _ _
    refine wpAny_bind (seq_drawn hh (((h2.but e1.extBut D.a4).but e2.extBut D.a0.symm).but e3.extBut D.a9.symm) (((hl2.but e1.extBut f2.1).but e2.extBut f2.2.2.1).but e3.extBut f2.2.1) hy fun g4 e e4 hs => ?_)
    obtain ⟨oe, hoe, hce⟩ := hs
    have z4 : IsZip g4 z TI TO .ellipsis := e4 _ _ D.a4.symm (e3.extBut _ _ D.a2.symm (e2.extBut _ _ D.a3.symm z1))
    have ne : e ≠ z := fun x => by subst x; rw [z4] at hoe; cases hoe; simp at hce
    exact wpAny_setField_rec z4 (by simp) fun g5 _ e5 => hE g5 e (fun c o c1 c2 c3 c4 x => e5.extBut _ _ c1 (e4 _ _ c4 (e3.extBut _ _ c2 (e2.extBut _ _ c3 (e1.extBut _ _ c1 x))))) ⟨oe, e5.extBut _ _ ne hoe, hce⟩
end

/-! making one -/
abbrev zg1 (h : Heap) (b1 : Bool) (l1 : Addr) : Heap := h.push (itObj b1 l1)
abbrev zg2 (h : Heap) (b1 b2 : Bool) (l1 l2 : Addr) : Heap := (zg1 h b1 l1).push (itObj b2 l2)
abbrev zg3 (h : Heap) (b1 b2 : Bool) (l1 l2 : Addr) : Heap := (zg2 h b1 b2 l1 l2).push { cls := .type "tuple", data := .seq #[.ref h.objs.size, .ref (zg1 h b1 l1).objs.size] }
abbrev zg4 (h : Heap) (b1 b2 : Bool) (l1 l2 : Addr) : Heap := (zg3 h b1 b2 l1 l2).push { cls := .type "tuple", data := .seq #[.none, .none] }
abbrev zg5 (h : Heap) (b1 b2 : Bool) (l1 l2 : Addr) : Heap := (zg4 h b1 b2 l1 l2).push { cls := .type "zip", data := .fields #[.none, .bool false, .bool false, .ref (zg2 h b1 b2 l1 l2).objs.size, .ref (zg3 h b1 b2 l1 l2).objs.size] }
theorem SeqAt.push {h : Heap} {b : Bool} {l : Addr} {xs : Array Value} (x : SeqAt h b l xs) (o : Obj) : SeqAt (h.push o) b l xs := by
  cases b
  · exact Heap.IsList.push x o
  · exact Heap.IsTuple.push x o
theorem zipN_new (b1 b2 : Bool) (l1 l2 : Addr) (xs ys : Array Value) :
    Meets (Builtin.«zip.__new__» ⟨[.type "zip", .ref l1, .ref l2], []⟩) (fun _ R s => SeqAt s.heap b1 l1 xs ∧ SeqAt s.heap b2 l2 ys ∧
      R (.ok (.ret (.ref (zg4 s.heap b1 b2 l1 l2).objs.size))) { s with heap := zg5 s.heap b1 b2 l1 l2 }) :=
  .of_wp fun prog w A R s h => by
    obtain ⟨hp, g, d, tk, os⟩ := s; obtain ⟨g1, g2, h⟩ := h
    have hsub := sub_zip
    have q1 : SeqAt (Shared.heap ⟨hp, g, d, tk, os⟩) b1 l1 xs := g1
    have q2 : SeqAt (Shared.heap ⟨hp.push (itObj b1 l1), g, d, tk, os⟩) b2 l2 ys := SeqAt.push g2 _
    wp_walk using seq_iter q1, seq_iter q2
    exact ⟨_, rfl, h⟩
section
variable {prog : Program} {w : World} {A : Around} {E : Value → Shared → Prop} {s : Shared}
theorem call_zipN {b1 b2 : Bool} {l1 l2 : Addr} {xs ys : Array Value} {Q : Value → Shared → Prop} (q1 : SeqAt s.heap b1 l1 xs) (q2 : SeqAt s.heap b2 l2 ys)
    (h : ∀ g, IsZip g (s.heap.objs.size + 4) (s.heap.objs.size + 2) (s.heap.objs.size + 3) .none → IsPair g (s.heap.objs.size + 2) (.ref s.heap.objs.size) (.ref (s.heap.objs.size + 1)) →
      IsPair g (s.heap.objs.size + 3) .none .none → SItAt g b1 s.heap.objs.size l1 0 → SItAt g b2 (s.heap.objs.size + 1) l2 0 →
      (∀ c o, s.heap.get? c = some o → g.get? c = some o) → Q (.ref (s.heap.objs.size + 4)) { s with heap := g }) :
    wpAny (model prog w) A (call (.type "zip") [.ref l1, .ref l2]) Q E s := by
  refine callType_new F.called_zip (by decide) (F.typeCall_zip_2 _ _) (F.newCall_zip_2 _ _) (fun obj => F.args_object_init_3 obj _ _) F.entry_zip_new (zipN_new b1 b2 l1 l2 xs ys) ⟨q1, q2, ?_⟩
  have y1 : (zg1 s.heap b1 l1).objs.size = s.heap.objs.size + 1 := Heap.size_push ..
  have y2 : (zg2 s.heap b1 b2 l1 l2).objs.size = s.heap.objs.size + 2 := by rw [Heap.size_push, y1]
  have y3 : (zg3 s.heap b1 b2 l1 l2).objs.size = s.heap.objs.size + 3 := by rw [Heap.size_push, y2]
  have y4 : (zg4 s.heap b1 b2 l1 l2).objs.size = s.heap.objs.size + 4 := by rw [Heap.size_push, y3]
  have r5 : (zg5 s.heap b1 b2 l1 l2).get? (zg4 s.heap b1 b2 l1 l2).objs.size = some _ := Heap.get?_push_size _ rfl
  have r4 : (zg5 s.heap b1 b2 l1 l2).get? (zg3 s.heap b1 b2 l1 l2).objs.size = some _ := Heap.get?_push_of_some _ (Heap.get?_push_size _ rfl)
  have r3 : (zg5 s.heap b1 b2 l1 l2).get? (zg2 s.heap b1 b2 l1 l2).objs.size = some _ := Heap.get?_push_of_some _ (Heap.get?_push_of_some _ (Heap.get?_push_size _ rfl))
  have r2 : (zg5 s.heap b1 b2 l1 l2).get? (zg1 s.heap b1 l1).objs.size = some (itObj b2 l2) := Heap.get?_push_of_some _ (Heap.get?_push_of_some _ (Heap.get?_push_of_some _ (Heap.get?_push_size _ (by cases b2 <;> rfl))))
  have r1 : (zg5 s.heap b1 b2 l1 l2).get? s.heap.objs.size = some (itObj b1 l1) := Heap.get?_push_of_some _ (Heap.get?_push_of_some _ (Heap.get?_push_of_some _ (Heap.get?_push_of_some _ (Heap.get?_push_size _ (by cases b1 <;> rfl)))))
  show _ ∧ _
  rw [y2, y3, y4] at r5
  rw [y1, y2] at r3
  rw [y3] at r4
  rw [y1] at r2
  rw [y4]
  refine ⟨⟨_, r5, rfl⟩, h _ r5 r3 r4 ?_ ?_ fun c o x => Heap.get?_push_of_some _ (Heap.get?_push_of_some _ (Heap.get?_push_of_some _ (Heap.get?_push_of_some _ (Heap.get?_push_of_some _ x))))⟩
  · cases b1
    · exact (show Heap.IsListIter _ _ _ _ from ⟨_, r1, rfl, rfl⟩)
    · exact (show Heap.IsTupleIter _ _ _ _ from ⟨_, r1, rfl, rfl⟩)
  · cases b2
    · exact (show Heap.IsListIter _ _ _ _ from ⟨_, r2, rfl, rfl⟩)
    · exact (show Heap.IsTupleIter _ _ _ _ from ⟨_, r2, rfl, rfl⟩)
end

/-! the turns -/
section
variable {X : Cx} {pins : List (Addr × Obj)} {σ : St} {H : Hp} {s : Shared} {a c : Addr} {xs ys : List V} {b : Bool}
theorem Inv.seqB (I : Inv X pins σ H s) (h : SqB X.K b H a xs) : ∃ its : List Value, Vals xs its ∧ SeqAt s.heap b a its.toArray := by
  cases b
  · obtain ⟨its, r, p, _⟩ := I.list (show SqL X.K H a xs from h)
    exact ⟨its, r, p.isList⟩
  · obtain ⟨its, r, p, _⟩ := I.tuple (show SqT X.K H a xs from h)
    exact ⟨its, r, p⟩
theorem Inv.seqB_inj (I : Inv X pins σ H s) (h : SqB X.K b H a xs) (h' : SqB X.K b H a ys) : xs = ys := by
  cases b
  · exact I.list_inj h h'
  · exact I.tuple_inj h h'
end
def Itz (K : PySem.W.Frag) (b1 b2 : Bool) (a1 a2 : Addr) : It :=
  ⟨fun i H => ∃ xs ys x y, SqB K b1 H a1 xs ∧ SqB K b2 H a2 ys ∧ xs[i]? = some x ∧ ys[i]? = some y,
   fun i H x H' => ∃ T v u, x = .ref T ∧ H T = none ∧ H' = upd H T (.tup [v, u]) ∧ (∀ xs, SqB K b1 H a1 xs → xs[i]? = some v) ∧ ∀ ys, SqB K b2 H a2 ys → ys[i]? = some u,
   fun i H => ∃ xs ys, SqB K b1 H a1 xs ∧ SqB K b2 H a2 ys ∧ (xs.length ≤ i ∨ ys.length ≤ i)⟩
theorem turn_zip {P : Program} {w : World} {K : PySem.W.Frag} {es : List Expr} {k : Nat} {pos : Pos} (b1 b2 : Bool) (a1 a2 z TI TO i1 i2 : Addr) (D : ZA z TI TO i1 i2) :
    Turn P w K (.Tuple es k pos) (Itz K b1 b2 a1 a2) [z, TI, TO, i1, i2] z (fun i h => IsZip h z TI TO .none ∧ IsPair h TI (.ref i1) (.ref i2) ∧ (∃ p q, IsPair h TO p q) ∧ SItAt h b1 i1 a1 i ∧ SItAt h b2 i2 a2 i) where
  mem := by simp
  obj := fun i h st b hb => by
    obtain ⟨h1, h2, ⟨p, q, h3⟩, h4, h5⟩ := st
    have hb' : b = z ∨ b = TI ∨ b = TO ∨ b = i1 ∨ b = i2 := by simpa using hb
    rcases hb' with e | e | e | e | e
    · subst e; exact ⟨_, h1, fun v z => by
        have z' : Data.fields _ = Data.cell v := z
        cases z'⟩
    · subst e; exact ⟨_, h2, fun v z => by
        have z' : Data.seq _ _ = Data.cell v := z
        cases z'⟩
    · subst e; exact ⟨_, h3, fun v z => by
        have z' : Data.seq _ _ = Data.cell v := z
        cases z'⟩
    · subst e; exact h4.there
    · subst e; exact h5.there
  keep := fun i h h' st kk => by
    obtain ⟨h1, h2, ⟨p, q, h3⟩, h4, h5⟩ := st
    exact ⟨kk z (by simp) _ h1, kk TI (by simp) _ h2, ⟨p, q, kk TO (by simp) _ h3⟩, h4.keep fun o e => kk i1 (by simp) o e, h5.keep fun o e => kk i2 (by simp) o e⟩
  item := by
    intro X hP hw hK hc i pins s σ H E I hf st hg
    subst hP hw hK
    obtain ⟨xs, ys, x, y, q1, q2, hx, hy⟩ := hg
    obtain ⟨h1, h2, ⟨p, q, h3⟩, h4, h5⟩ := st
    obtain ⟨its, rv, p1⟩ := I.seqB q1
    obtain ⟨jts, rw', p2⟩ := I.seqB q2
    obtain ⟨u, hu, ru⟩ := rv.get hx
    obtain ⟨v, hv, rv2⟩ := rw'.get hy
    have off : ∀ {b : Bool} {a : Addr} {zs : List V}, SqB X.K b H a zs → Off z TI TO i1 i2 a := fun hq =>
      ⟨I.away (hf z (by simp)) hq, I.away (hf TO (by simp)) hq, I.away (hf i1 (by simp)) hq, I.away (hf i2 (by simp)) hq⟩
    have hT : s.TypeIs (.ref z) "zip" := ⟨_, h1, rfl⟩
    unfold pyNext
    refine wpAny_bind (wpAny_attempt (wpAny_callSpecial?_slot (name := Str.ofString "__next__") hT F.slot_zip_next (wpAny_call_entry F.slot_zip_next hT F.entry_zip_next (zipN_item D (off q1) (off q2) h1 h2 h3 h4 h5 p1 p2 (by simpa using hu) (by simpa using hv) fun g y1 y2 y3 y4 y5 y6 => ?_) (F.args_zip_next_1 _))))
    refine wpAny_pure ⟨_, rfl, ?_⟩
    have lt : ∀ {c o}, s.heap.get? c = some o → s.heap.objs.size ≠ c := fun e => Nat.ne_of_gt (Heap.lt_size e)
    refine wpAny_letOwnedTupleGo_zip y1 fun g2 z2 e2 => ?_
    have e2' : Heap.SameBut z g g2 := e2
    have kk : ∀ b o, b ∉ [z, TI, TO, i1, i2] → s.heap.get? b = some o → g2.get? b = some o := fun b o hb q => by
      have hb' : b ≠ z ∧ b ≠ TI ∧ b ≠ TO ∧ b ≠ i1 ∧ b ≠ i2 := by simpa using hb
      exact e2'.extBut _ _ hb'.1 (y6 b o hb'.1 hb'.2.2.1 hb'.2.2.2.1 hb'.2.2.2.2 q)
    have hT2 : g2.get? s.heap.objs.size = some { cls := .type "tuple", data := .seq #[u, v] } := e2'.extBut _ _ (lt h1) y5
    have new : ObjOk X.prog X.w (upd H s.heap.objs.size (.tup [x, y])) g2 s.heap.objs.size (.tup [x, y]) := ⟨by show 2 ≤ sizeLine; decide, [u, v], .cons ru (.cons rv2 .nil), ⟨_, hT2, rfl, _, rfl⟩⟩
    have hnT : H s.heap.objs.size = none := I.hok.fresh (Nat.le_refl _)
    refine ⟨.ref s.heap.objs.size, upd H s.heap.objs.size (.tup [x, y]), I.turnedNew kk hf (Nat.le_refl _) new, rfl, ⟨_, x, y, rfl, hnT, rfl, fun zs hz => by rw [I.seqB_inj hz q1]; exact hx, fun zs hz => by rw [I.seqB_inj hz q2]; exact hy⟩,
      ⟨z2, e2'.extBut _ _ D.a1 (y6 _ _ D.a1 D.a5 D.a6 D.a7 h2), ⟨_, _, e2'.extBut _ _ D.a2 y2⟩, y3.but e2'.extBut D.a3, y4.but e2'.extBut D.a4⟩, fun b hb => ?_⟩
    have hne : b ≠ s.heap.objs.size := by
      have hb' : b = z ∨ b = TI ∨ b = TO ∨ b = i1 ∨ b = i2 := by simpa using hb
      rcases hb' with e | e | e | e | e
      · rw [e]; exact Ne.symm (lt h1)
      · rw [e]; exact Ne.symm (lt h2)
      · rw [e]; exact Ne.symm (lt h3)
      · obtain ⟨o, q, _⟩ := h4.there; rw [e]; exact Ne.symm (lt q)
      · obtain ⟨o, q, _⟩ := h5.there; rw [e]; exact Ne.symm (lt q)
    rw [upd_ne hne]
    exact (hf b hb).1
  done := by
    intro X hP hw hK hc i pins s σ H E I hf st hg
    subst hP hw hK
    obtain ⟨xs, ys, q1, q2, hx⟩ := hg
    obtain ⟨h1, h2, ⟨p, q, h3⟩, h4, h5⟩ := st
    obtain ⟨its, rv, p1⟩ := I.seqB q1
    obtain ⟨jts, rw', p2⟩ := I.seqB q2
    have off : ∀ {b : Bool} {a : Addr} {zs : List V}, SqB X.K b H a zs → Off z TI TO i1 i2 a := fun hq =>
      ⟨I.away (hf z (by simp)) hq, I.away (hf TO (by simp)) hq, I.away (hf i1 (by simp)) hq, I.away (hf i2 (by simp)) hq⟩
    have hT : s.TypeIs (.ref z) "zip" := ⟨_, h1, rfl⟩
    have l1 := rv.length
    have l2 := rw'.length
    unfold pyNext
    refine wpAny_bind (wpAny_attempt (wpAny_callSpecial?_slot (name := Str.ofString "__next__") hT F.slot_zip_next (wpAny_call_entry F.slot_zip_next hT F.entry_zip_next
      (zipN_end (A := X.A.in1) (I.ok.hd hc) D (off q1) (off q2) h1 h2 h3 h4 h5 p1 p2 (by simp; omega) fun g e kk he => ?_) (F.args_zip_next_1 _))))
    obtain ⟨o, ho, hcc⟩ := he
    refine wpAny_bind (wpAny_isInstance (T := "StopIteration") (b := true) ⟨o, ho, hcc⟩ isSubtype_stop ?_)
    refine wpAny_pure ⟨rfl, ?_⟩
    have k2 : ∀ b o, b ∉ [z, TO, i1, i2] → s.heap.get? b = some o → g.get? b = some o := fun b o hb q => by
      have hb' : b ≠ z ∧ b ≠ TO ∧ b ≠ i1 ∧ b ≠ i2 := by simpa using hb
      exact kk b o hb'.1 hb'.2.1 hb'.2.2.1 hb'.2.2.2 q
    exact I.turnedL0 (t' := s.toks) k2 fun b hb => hf b (by
      have hb' : b = z ∨ b = TO ∨ b = i1 ∨ b = i2 := by simpa using hb
      rcases hb' with e | e | e | e <;> simp [e])
  self := fun _ _ _ _ _ st h => wpAny_pyIter_zip st.1 h
section
variable {X : Cx} {es : List Expr} {k : Nat} {tpos : Pos}
def iZip (K : PySem.W.Frag) (ta : TA) : TI := fun σ H R => ta σ H fun vs H1 => ∃ b1 b2 a1 a2, vs = [.ref a1, .ref a2] ∧ (∃ xs, SqB K b1 H1 a1 xs) ∧ (∃ ys, SqB K b2 H1 a2 ys) ∧ R (Itz K b1 b2 a1 a2) H1
theorem pi_zip {e e' : Expr} {ta : TA} {p pos : Pos} (hg : Gl X "zip") (hm : X.mg "zip" = none) (ha : PA X [e, e'] ta) (hs : starEach [e, e'] X.env = [(false, eval e X.env), (false, eval e' X.env)] := by rfl) (hs2 : starEach [e'] X.env = [(false, eval e' X.env)] := by rfl) :
    PI X (.Tuple es k tpos) (.Call (.Name "zip" p) [e, e'] [] pos) (iZip X.K ta) := by
  intro pins s σ H R I h
  refine Call_ (ld_blt I hg hm (u := .type "zip") (by rfl) (PyProof.Rows.callWith_type1 (thn (ha pos pins s σ H _ I h) fun us s1 ⟨vs, H1, I1, r1, q1⟩ => ?_) (by rw [hs, hs2]) (by rw [hs2]; rfl)))
  obtain ⟨b1, b2, a1, a2, rfl, ⟨xs, h1⟩, ⟨ys, h2⟩, q⟩ := q1
  obtain ⟨u, u', rfl, r, r'⟩ := vals2 r1
  obtain rfl : u = Value.ref a1 := r
  obtain rfl : u' = Value.ref a2 := r'
  obtain ⟨its, rv, p1⟩ := I1.seqB h1
  obtain ⟨jts, rw', p2⟩ := I1.seqB h2
  refine call_zipN p1 p2 fun g y1 y2 y3 y4 y5 y6 => ?_
  refine wpAny_pyIter_zip y1 ?_
  have I2 : Inv X pins σ H1 { s1 with heap := g } := I1.kept (t' := s1.toks) y6
  have D : ZA (s1.heap.objs.size + 4) (s1.heap.objs.size + 2) (s1.heap.objs.size + 3) s1.heap.objs.size (s1.heap.objs.size + 1) := by
    constructor <;> (show (_ : Nat) ≠ _; omega)
  refine ⟨s1.heap.objs.size + 4, _, _, _, H1, rfl, I2, turn_zip b1 b2 a1 a2 _ _ _ _ _ D, ⟨y1, y2, ⟨_, _, y3⟩, y4, y5⟩, fun b hb => ?_, q⟩
  have hb' : b = s1.heap.objs.size + 4 ∨ b = s1.heap.objs.size + 2 ∨ b = s1.heap.objs.size + 3 ∨ b = s1.heap.objs.size ∨ b = s1.heap.objs.size + 1 := by simpa using hb
  have hle : s1.heap.objs.size ≤ b := by rcases hb' with z | z | z | z | z <;> rw [z] <;> first | exact Nat.le_add_right _ _ | exact Nat.le_refl _
  exact I1.fpOk hle (I1.hok.fresh hle)
end
theorem for_zip {K : PySem.W.Frag} {b1 b2 : Bool} {a1 a2 : Addr} {xs ys : List V} {g : TG} {tb : TS} {D : Ends} {σ : St} {H : Hp} (Pv : Nat → St → Hp → Prop) (h0 : Pv 0 σ H) (hl : ∀ i σ H, i ≤ min xs.length ys.length → Pv i σ H → SqB K b1 H a1 xs ∧ SqB K b2 H a2 ys)
    (hs : ∀ i x y T σ H, xs[i]? = some x → ys[i]? = some y → H T = none → Pv i σ H → g (.ref T) σ (upd H T (.tup [x, y])) fun σ2 H2 => tb { D with nx := Pv (i + 1), ct := Pv (i + 1), bk := D.nx } σ2 H2) (hd : ∀ σ H, Pv (min xs.length ys.length) σ H → D.nx σ H) :
    ∃ W : Nat → Nat → St → Hp → Prop, (∃ m, W 0 m σ H) ∧ ∀ i m σ H, W i m σ H →
      ((Itz K b1 b2 a1 a2).stop i H ∧ D.nx σ H) ∨ ((Itz K b1 b2 a1 a2).go i H ∧ ∃ N : St → Hp → Prop, (∀ σ' H', N σ' H' → ∃ m', m' < m ∧ W (i + 1) m' σ' H') ∧ ∀ x H', (Itz K b1 b2 a1 a2).yld i H x H' → g x σ H' fun σ2 H2 => tb { D with nx := N, ct := N, bk := D.nx } σ2 H2) := by
  refine ⟨fun i m σ H => m = min xs.length ys.length - i ∧ i ≤ min xs.length ys.length ∧ Pv i σ H, ⟨min xs.length ys.length, by simp, Nat.zero_le _, h0⟩, ?_⟩
  rintro i m σ H ⟨rfl, hi, p⟩
  obtain ⟨q1, q2⟩ := hl i σ H hi p
  by_cases hlt : i < min xs.length ys.length
  · have h1 : i < xs.length := by omega
    have h2 : i < ys.length := by omega
    refine .inr ⟨⟨xs, ys, xs[i], ys[i], q1, q2, by simp [h1], by simp [h2]⟩, Pv (i + 1), fun σ' H' p' => ⟨min xs.length ys.length - (i + 1), by omega, rfl, hlt, p'⟩, fun x H' y => ?_⟩
    obtain ⟨T, v, u, e1, e2, e3, y1, y2⟩ := y
    subst e1 e3
    exact hs i v u T σ _ (y1 xs q1) (y2 ys q2) e2 p
  · have e : i = min xs.length ys.length := by omega
    subst e
    exact .inl ⟨⟨xs, ys, q1, q2, by omega⟩, hd σ H p⟩
end L2

set_option Elab.async false
set_option linter.all false
set_option maxRecDepth 100000
set_option maxHeartbeats 4000000
namespace L2
open PySem PySem.Spec PyProof.Rows

/-! ## M5. list comprehensions -/
/-- the cells that a block closes over -/
def closes (env : Env) : List (Str × NameKind) → List (Str × Addr) → List (Str × Addr)
  | [], cs => cs
  | (n, k) :: r, cs => closes env r (if k == .free then (match env.cells.lookup n with | some c => (n, c) :: cs | none => cs) else cs)
theorem closes_mem {env : Env} : ∀ {ns : List (Str × NameKind)} {cs : List (Str × Addr)} {x : Str} {c : Addr}, (∀ y d, (y, d) ∈ cs → env.cells.lookup y = some d) → (x, c) ∈ closes env ns cs → env.cells.lookup x = some c
  | [], _, _, _, h, m => h _ _ m
  | (n, k) :: r, cs, x, c, h, m => by
    unfold closes at m
    refine closes_mem (ns := r) (fun y d hm => ?_) m
    by_cases hk : (k == NameKind.free) = true
    · rw [if_pos hk] at hm
      cases e : env.cells.lookup n with
      | none => rw [e] at hm; exact h _ _ hm
      | some a =>
        rw [e] at hm
        rcases List.mem_cons.mp hm with q | q
        · cases q; exact e
        · exact h _ _ q
    · rw [if_neg hk] at hm; exact h _ _ hm
theorem closes_has {env : Env} : ∀ {ns : List (Str × NameKind)} {cs : List (Str × Addr)} {x : Str} {c : Addr}, (x, NameKind.free) ∈ ns ∨ (x, c) ∈ cs → env.cells.lookup x = some c → (x, c) ∈ closes env ns cs
  | [], _, _, _, h, _ => h.elim (fun z => absurd z (by simp)) id
  | (n, k) :: r, cs, x, c, h, e => by
    unfold closes
    refine closes_has (ns := r) ?_ e
    rcases h with h | h
    · rcases List.mem_cons.mp h with q | q
      · cases q
        right
        rw [if_pos (by rfl), e]
        exact List.mem_cons_self
      · exact .inl q
    · right
      by_cases hk : (k == NameKind.free) = true
      · rw [if_pos hk]
        cases env.cells.lookup n with
        | none => exact h
        | some a => exact List.mem_cons_of_mem _ h
      · rw [if_neg hk]; exact h
theorem closureFor_closes {scope : Scope} {env : Env} (h : ∀ x ∈ scope.names, x.2 = .free → ∃ c, env.cells.lookup x.1 = some c) : closureFor scope env = pure (closes env scope.names []) := by
  have all : ∀ (ns : List (Str × NameKind)) (cs : List (Str × Addr)), (∀ x ∈ ns, x.2 = .free → ∃ c, env.cells.lookup x.1 = some c) →
      (forIn ns cs fun (x : Str × NameKind) (r : List (Str × Addr)) => (if x.2 == .free then do let c ← cellOf env x.1; pure (ForInStep.yield ((x.1, c) :: r)) else pure (ForInStep.yield r) : Sem _)) = pure (closes env ns cs) := by
    intro ns
    induction ns with
    | nil => intro cs _; rfl
    | cons x r ih =>
      obtain ⟨n, k⟩ := x
      intro cs hx
      rw [List.forIn_cons]
      unfold closes
      by_cases hk : (k == NameKind.free) = true
      · have hk' : k = .free := by simpa using hk
        obtain ⟨c, e⟩ := hx (n, k) List.mem_cons_self hk'
        have e' : env.cells.lookup n = some c := e
        have e2 : cellOf env n = pure c := by unfold cellOf; rw [e']
        simp only [hk, if_true, e2, pure_bind, e']
        exact ih _ fun y hy => hx y (List.mem_cons_of_mem _ hy)
      · simp only [hk, Bool.false_eq_true, if_false, pure_bind]
        exact ih _ fun y hy => hx y (List.mem_cons_of_mem _ hy)
  have := all scope.names [] h
  simp only [closureFor]
  first
    | exact (bind_congr fun _ => rfl).trans (by rw [this, pure_bind])
    | (show (forIn scope.names [] _ >>= _) = _; rw [show (forIn scope.names ([] : List (Str × Addr)) _) = _ from this]; rfl)
    | (rw [this]; rfl)
    | exact this
theorem lookup_mem {x : Str} {c : Addr} : ∀ {cs : List (Str × Addr)}, cs.lookup x = some c → (x, c) ∈ cs := fun h => PySem.mem_of_lookup h
theorem lookup_of_mem {x : Str} {c : Addr} : ∀ {cs : List (Str × Addr)}, (x, c) ∈ cs → (∀ d, (x, d) ∈ cs → d = c) → cs.lookup x = some c
  | [], h, _ => absurd h (by simp)
  | (y, d) :: r, h, u => by
    rw [List.lookup_cons]
    cases e : x == y with
    | true =>
      have e' : x = y := by simpa using e
      subst e'
      simp only
      rw [u d List.mem_cons_self]
    | false =>
      simp only
      refine lookup_of_mem ?_ fun d' hd => u d' (List.mem_cons_of_mem _ hd)
      rcases List.mem_cons.mp h with q | q
      · cases q; simp at e
      · exact q

/-- the block's context -/
def blk (X : Cx) (scope : Scope) (NB : List Str) (C : Addr) (s : Shared) (H : Hp) (fp : List Addr) : Cx where
  prog := X.prog
  w := X.w
  K := X.K
  mg := X.mg
  base := X.base
  A := X.A
  N := NB
  s₀ := s
  H₀ := H
  env := compEnvC scope (closes X.env scope.names []) C X.env
  outer := X.stack
  stack := X.stack
  ex := fp
  fn := fun _ => false
  calm := X.calm
  pn := []
  xe := fun _ _ => False
/-- the values of the names that it closes over, by their places in X -/
def carry (fr : List (Option Nat)) (σ : St) : St := fr.map fun o => match o with | some j => (σ[j]?).getD none | none => none
/-- the block's scope, as the scope around it makes it -/
def relS (scope sc : Scope) : Scope :=
  { scope with names := scope.names.map fun (n, k) => if (k == .free && sc.kind == .function && sc.names.lookup n == some .cell) then (n, .cell) else (n, k) }
/-- the block's names are in order: sc the scope around it, N its names -/
structure BlkOk (sc : Scope) (N : List Str) (scope : Scope) (NB : List Str) (fr : List (Option Nat)) : Prop where
  kind : scope.kind = .function
  cell : ∀ y ∈ scope.names, y.2 ≠ .cell
  names : ∀ x ∈ scope.names, x.2 = .local → scope.names.lookup x.1 = some .local
  free : ∀ x ∈ scope.names, x.2 = .free → sc.names.lookup x.1 = some .cell ∨ sc.names.lookup x.1 = some .free
  len : NB.length = fr.length
  bind : ∀ p ∈ fr.zip NB, ∀ j ∈ p.1, N[j]? = some p.2 ∧ (p.2, NameKind.free) ∈ scope.names ∧ ((relS scope sc).names.lookup p.2 = some .cell ∨ (relS scope sc).names.lookup p.2 = some .free)
instance {sc : Scope} {N : List Str} {scope : Scope} {NB : List Str} {fr : List (Option Nat)} : Decidable (BlkOk sc N scope NB fr) :=
  decidable_of_iff ((scope.kind = .function ∧ ∀ y ∈ scope.names, y.2 ≠ .cell) ∧ ((∀ x ∈ scope.names, x.2 = .local → scope.names.lookup x.1 = some .local) ∧ ∀ x ∈ scope.names, x.2 = .free → sc.names.lookup x.1 = some .cell ∨ sc.names.lookup x.1 = some .free) ∧
    NB.length = fr.length ∧ ∀ p ∈ fr.zip NB, ∀ j ∈ p.1, N[j]? = some p.2 ∧ (p.2, NameKind.free) ∈ scope.names ∧ ((relS scope sc).names.lookup p.2 = some .cell ∨ (relS scope sc).names.lookup p.2 = some .free))
    ⟨fun ⟨⟨a, b⟩, ⟨c, d⟩, e, f⟩ => ⟨a, b, c, d, e, f⟩, fun ⟨a, b, c, d, e, f⟩ => ⟨⟨a, b⟩, ⟨c, d⟩, e, f⟩⟩
theorem lookup_relabel_free {env : Env} {x : Str} : ∀ {names : List (Str × NameKind)} {k : NameKind}, (names.map fun (n, k) => if (k == NameKind.free && env.scope.kind == .function && env.kindOf n == some .cell) then (n, NameKind.cell) else (n, k)).lookup x = some k →
    (k = .cell ∨ k = .free) → (∀ y ∈ names, y.2 ≠ .cell) → (x, NameKind.free) ∈ names
  | [], k, h, _, _ => by simp at h
  | (n, k0) :: r, k, h, hk, hc => by
    have hc' : ∀ y ∈ r, y.2 ≠ .cell := fun y hy => hc y (List.mem_cons_of_mem _ hy)
    by_cases e : (x == n) = true
    · have e' : x = n := by simpa using e
      subst e'
      by_cases hc0 : (k0 == NameKind.free && env.scope.kind == .function && env.kindOf x == some .cell) = true
      · have : k0 = .free := by
          rw [Bool.and_eq_true, Bool.and_eq_true] at hc0
          simpa using hc0.1.1
        rw [this]; exact List.mem_cons_self
      · rw [List.map_cons] at h
        simp only [hc0, if_false, Bool.false_eq_true] at h
        rw [List.lookup_cons, e] at h
        have h' : k0 = k := by simpa using h
        subst h'
        rcases hk with z | z
        · exact absurd z (hc (x, k0) List.mem_cons_self)
        · rw [z]; exact List.mem_cons_self
    · have e' : (x == n) = false := by simpa using e
      rw [List.map_cons] at h
      refine List.mem_cons_of_mem _ (lookup_relabel_free (env := env) (names := r) (k := k) ?_ hk hc')
      by_cases hc0 : (k0 == NameKind.free && env.scope.kind == .function && env.kindOf n == some .cell) = true
      · simp only [hc0, if_true] at h
        rw [List.lookup_cons, e'] at h
        exact h
      · simp only [hc0, if_false, Bool.false_eq_true] at h
        rw [List.lookup_cons, e'] at h
        exact h

section
variable {X : Cx} {pins : List (Addr × Obj)} {σ : St} {H : Hp} {s : Shared} {scope : Scope} {NB : List Str} {fr : List (Option Nat)} {fp : List Addr}
theorem BlkOk.closed (B : BlkOk X.env.scope X.N scope NB fr) (I : Inv X pins σ H s) : ∀ x ∈ scope.names, x.2 = .free → ∃ c, X.env.cells.lookup x.1 = some c := fun x hx hf => I.ok.has x.1 (B.free x hx hf)
theorem BlkOk.look (B : BlkOk X.env.scope X.N scope NB fr) (I : Inv X pins σ H s) {x : Str} (hx : (x, NameKind.free) ∈ scope.names) : ∃ c, X.env.cells.lookup x = some c ∧ (closes X.env scope.names []).lookup x = some c := by
  obtain ⟨c, e⟩ := B.closed I _ hx rfl
  refine ⟨c, e, lookup_of_mem (closes_has (.inl hx) e) fun d hd => ?_⟩
  have := closes_mem (fun _ _ z => absurd z (by simp)) hd
  rw [e] at this
  exact (Option.some.inj this).symm
theorem blk_cells {x : Str} {c : Addr} (h : (closes X.env scope.names []).lookup x = some c) : X.env.cells.lookup x = some c := closes_mem (fun _ _ z => absurd z (by simp)) (lookup_mem h)
/-- the block's start: C is the newest object, an empty dict -/
theorem blk_start {h1 : Heap} {tk : Nat} {C : Addr} {m : Str → Option Value} (B : BlkOk X.env.scope X.N scope NB fr) (I : Inv X pins σ H s) (hf : ∀ b ∈ fp, FpOk X pins H b ∧ b < s.heap.objs.size) (hC : s.heap.objs.size ≤ C)
    (k : ∀ b o, s.heap.get? b = some o → h1.get? b = some o) (hn : h1.Ns C m) :
    Inv (blk X scope NB C s H fp) [] (carry fr σ) H { s with heap := h1, toks := tk } := by
  have hk : (relabel scope X.env).kind = .function := B.kind
  refine ⟨⟨I.ok.mod, hk, I.ok.glob, I.ok.blt, hC, fun x y c e1 e2 => I.ok.inj x y c (blk_cells e1) (blk_cells e2), fun x hx => ?_, fun x c hfn _ => absurd hfn (by simp [blk]), I.ok.hd, I.ok.frames, .inl rfl, fun b hb => ⟨?_, fun x c e => ?_⟩, I.bs, Nat.le_trans I.ok.bsz I.sz, fun b o e hb => ?_, fun b hb => ?_, I.stack, I.stkFree⟩,
    rfl, I.bare, Un.kept k, ⟨m, hn, fun i x v e1 e2 e3 => ?_⟩, fun x c e => ?_, I.hok.fresh hC, fun x c e => I.freeC x c (blk_cells e), fun p hp => absurd (show p ∈ ([] : List (Addr × Obj)) from hp) (by simp), I.hok.kept k, ?_⟩
  · have hx' : (relabel scope X.env).names.lookup x = some .cell ∨ (relabel scope X.env).names.lookup x = some .free := hx
    have hm : (x, NameKind.free) ∈ scope.names := by
      rcases hx' with z | z
      · exact lookup_relabel_free z (.inl rfl) B.cell
      · exact lookup_relabel_free z (.inr rfl) B.cell
    obtain ⟨c, _, e⟩ := B.look I hm
    exact ⟨c, e⟩
  · exact Nat.ne_of_lt (Nat.lt_of_lt_of_le (hf b hb).2 hC)
  · exact (hf b hb).1.2.2.2.2.1 x c (blk_cells e)
  · rcases (hf b hb).1.2.2.2.1 with z | z
    · exact I.ok.noex b o e z
    · exact absurd (Nat.lt_of_lt_of_le (Heap.lt_size (I.ok.bs b o e).1) z) (Nat.lt_irrefl _)
  · intro z
    rcases List.mem_cons.mp (I.stkSub b z) with q | q
    · exact (hf b hb).1.2.1 q
    · exact (hf b hb).1.2.2.1 q
  · -- a name that is closed over
    obtain ⟨mX, hnX, hlX⟩ := I.loc
    have e2' : ∃ j, fr[i]? = some (some j) ∧ σ[j]? = some (some v) := by
      unfold carry at e2
      rw [List.getElem?_map] at e2
      cases q : fr[i]? with
      | none => rw [q] at e2; cases e2
      | some o =>
        rw [q] at e2
        cases o with
        | none => simp at e2
        | some j =>
          refine ⟨j, rfl, ?_⟩
          have e2 : (σ[j]?).getD none = some v := by simpa using e2
          cases q2 : σ[j]? with
          | none => rw [q2] at e2; cases e2
          | some w => rw [q2] at e2; simp at e2; rw [e2]
    obtain ⟨j, hj, hs⟩ := e2'
    have hz : (some j, x) ∈ fr.zip NB := List.mem_of_getElem? (i := i) (by rw [List.getElem?_zip_eq_some]; exact ⟨hj, e1⟩)
    obtain ⟨hy2, hy3, kd'⟩ := B.bind _ hz j rfl
    have vis : Vis X.env.scope x := by
      rcases B.free _ hy3 rfl with z | z
      · exact .inr (.inl z)
      · exact .inr (.inr z)
    obtain ⟨u, ru, lk⟩ := hlX j x v hy2 hs vis
    refine ⟨u, ru, ?_⟩
    obtain ⟨c, ec1, ec2⟩ := B.look I hy3
    have kd : (compEnvC scope (closes X.env scope.names []) C X.env).kindOf x = some .cell ∨ (compEnvC scope (closes X.env scope.names []) C X.env).kindOf x = some .free := kd'
    refine .inr ⟨kd, c, ec2, ?_⟩
    rcases lk with ⟨q1, q2⟩ | ⟨_, c', q2, q3⟩
    · exfalso
      rcases B.free _ hy3 rfl with t | t
      · rw [show X.env.kindOf x = some .cell from t] at q1; cases q1
      · rw [show X.env.kindOf x = some .free from t] at q1; cases q1
    · rw [ec1] at q2
      cases q2
      obtain ⟨o, ho, hd⟩ := q3
      exact ⟨o, k _ _ ho, hd⟩
  · obtain ⟨v, o, ho, hd⟩ := I.cell x c (blk_cells e)
    exact ⟨v, o, k _ _ ho, hd⟩
  · unfold carry
    rw [List.length_map]
    exact B.len.symm
end

section
variable {prog : Program} {w : World} {A : Around} {E : Value → Shared → Prop} {s : Shared}
/-- the block's turns; nothing is raised in them -/
theorem comp_turns {elt tg iter : Expr} {ifs : List Expr} {scope : Scope} {pos : Pos} {it acc : Value} {env : Env} {R : Result → Shared → Prop} (J : Nat → Shared → Prop)
    (turn : ∀ n s, J n s → wpAny (model prog w) A (pyNext it) (fun r s1 => match r with
      | none => R (.ok .next) s1
      | some v => wpAny (model prog w) A (letOwnedTupleGo tg it v) (fun _ s2 => wpAny (model prog w) A (assign tg env v) (fun _ s3 =>
          wpAny (model prog w) A (forIn ifs true fun c r => if r = true then do let ok ← isTrue c env (eval c env); pure (ForInStep.yield ok) else pure (ForInStep.yield r)) (fun ok s4 =>
            if ok = true then wpAny (model prog w) A (eval elt env) (fun x s5 => wpAny (model prog w) A (call (.builtin "list.append") [acc, x]) (fun _ s6 => ∃ m, m < n ∧ J m s6) (fun _ _ => False) s5) (fun _ _ => False) s4
            else ∃ m, m < n ∧ J m s4) (fun _ _ => False) s3) (fun _ _ => False) s2) (fun _ _ => False) s1) (fun _ _ => False) s)
    (n : Nat) (h : J n s) : codeAny (model prog w) A (.compLoop (.ListComp elt [⟨tg, iter, ifs, 0⟩] scope pos) 0 it acc env) R s := by
  refine codeAny_loop rfl J (fun n s hJ => ?_) n h
  show wpAny _ A ((compTurn (.ListComp elt [⟨tg, iter, ifs, 0⟩] scope pos) 0 it acc env).onRaise _) _ _ s
  refine wpAny_noted ?_
  rw [compTurn_list]
  refine wpAny_bind (wpAny_standAt (wpAny_bind (wpAny_mono (turn n s hJ) (fun r s1 h1 => ?_) fun _ _ z => z.elim)))
  cases r with
  | none => exact wpAny_pure h1
  | some v =>
    refine wpAny_bind (wpAny_mono h1 (fun _ s2 h2 => wpAny_bind (wpAny_mono h2 (fun _ s3 h3 => wpAny_bind (wpAny_mono h3 (fun ok s4 h4 => ?_) fun _ _ z => z.elim)) fun _ _ z => z.elim)) fun _ _ z => z.elim)
    cases ok with
    | false => exact wpAny_pure ⟨rfl, h4⟩
    | true => exact wpAny_bind (wpAny_bind (wpAny_mono h4 (fun x s5 h5 => wpAny_bind (wpAny_mono h5 (fun _ s6 h6 => wpAny_pure (wpAny_pure ⟨rfl, h6⟩)) fun _ _ z => z.elim)) fun _ _ z => z.elim))
end

/-- σ2 has what σ has -/
def Wk (σ σ2 : St) : Prop := σ2.length = σ.length ∧ ∀ (i : Nat) v, σ[i]? = some (some v) → σ2[i]? = some (some v)
/-- the reading: J's turns, the list at D with ys so far; nx: taken or left out -/
def tTurns (fr : List (Option Nat)) (g : TG) (tc : TT) (te : TE) (D : Addr) (J : It) (σ : St) (H1 : Hp) (Q : VK) : Prop :=
  ∃ W : Nat → Nat → List V → Hp → Prop, (∃ m, W 0 m [] (upd H1 D (.lst []))) ∧ ∀ i m ys H, W i m ys H → H D = some (.lst ys) ∧
    ((J.stop i H ∧ Q (.ref D) H) ∨ (J.go i H ∧ ys.length < sizeLine ∧ ∃ N : List V → Hp → Prop, (∀ ys' H', N ys' H' → ∃ m', m' < m ∧ W (i + 1) m' ys' H') ∧
      ∀ x H', J.yld i H x H' → g x (carry fr σ) H' fun σ2 H2 => Wk (carry fr σ) σ2 ∧ tc σ2 H2 fun b H3 => if b = true then te σ2 H3 fun y H4 => H4 D = some (.lst ys) ∧ N (ys ++ [y]) (upd H4 D (.lst (ys ++ [y]))) else N ys H3))
def tComp (fr : List (Option Nat)) (wi : TI) (g : TG) (tc : TT) (te : TE) : TE := fun σ H Q => wi σ H fun J H1 => ∀ D, H1 D = none → tTurns fr g tc te D J σ H1 Q
/-- no test -/
def tYes : TT := fun _ H Q => Q true H
/-- the tests of a block: none, or one -/
inductive PIfs (Y : Cx) : List Expr → TT → Prop where
  | nil : PIfs Y [] tYes
  | one {c : Expr} {t : TT} : PT Y c t → PIfs Y [c] t
section
variable {X : Cx} {scope : Scope} {NB : List Str} {fr : List (Option Nat)} {elt tg iter : Expr} {ifs : List Expr} {pos : Pos} {wi : TI} {g : TG} {tc : TT} {te : TE}
/-- an object of ours that nobody else tracks has changed: the block's names -/
theorem Inv.lost {pins : List (Addr × Obj)} {σ : St} {H : Hp} {s : Shared} {h' : Heap} {C : Addr} (I : Inv X pins σ H s) (hs : Heap.SameBut C s.heap h') (f : FpOk X pins H C) : Inv X pins σ H { s with heap := h' } :=
  I.turned (t' := s.toks) (fun b o hb e => (hs.2 b hb).trans e) f.1 f.2.1 f.2.2.2.1 f.2.2.2.2.1 f.2.2.2.2.2
/-- the block runs: use is what is done with the list at its end, ahead of the names' end -/
theorem blk_run (hcalm : X.calm = true) (B : BlkOk X.env.scope X.N scope NB fr) (hg : ∀ C s H fp, PG (blk X scope NB C s H fp) tg g) (hif : ∀ C s H fp, PIfs (blk X scope NB C s H fp) ifs tc) (he : ∀ C s H fp, PE (blk X scope NB C s H fp) elt te)
    {pins : List (Addr × Obj)} {σ : St} {Q : VK} {E : Value → Shared → Prop} {itv : Value} {s2 : Shared} (h2 : PIE X pins σ tg (fun J H1 => ∀ D, H1 D = none → tTurns fr g tc te D J σ H1 Q) itv s2)
    {RR : Value → Addr → Result → Shared → Prop}
    (hRR : ∀ D C H' s', Inv X pins σ H' s' → FpOk X pins H' C → (∃ m, s'.heap.Ns C m) → Q (.ref D) H' → RR (.ref D) C (.ok .next) s') :
    wpAny (model X.prog X.w) X.A (newList []) (fun acc s3 => wpAny (model X.prog X.w) X.A (newFunctionEnv scope X.env.globals (closes X.env scope.names []) [] X.env.qual none .none (some X.env)) (fun cenv s4 =>
      codeAny (model X.prog X.w) X.A (.compStart (.ListComp elt [⟨tg, iter, ifs, 0⟩] scope pos) 0 itv acc { cenv with scope := relabel scope X.env }) (RR acc cenv.locals) s4) E s3) E s2 := by
  obtain ⟨it, fp, tn, J, H2, rfl, I2, T, st2, f2, q2⟩ := h2
  refine wpAny_newObj_type ?_
  have hD : H2 s2.heap.objs.size = none := I2.hok.fresh (Nat.le_refl _)
  have I3 : Inv X pins σ (upd H2 s2.heap.objs.size (.lst [])) { s2 with heap := s2.heap.push { cls := .type "list", data := .seq ([] : List Value).toArray } } :=
    I2.laid (t' := s2.toks) (fun b u e => Heap.get?_push_of_some _ e) (Nat.le_refl _) ⟨by show 0 ≤ sizeLine; decide, [], 0, .nil, Heap.get?_push_size _ rfl⟩
  obtain ⟨W, ⟨m0, w0⟩, turn⟩ := q2 s2.heap.objs.size hD
  generalize hDe : s2.heap.objs.size = D at *
  generalize hH3 : upd H2 D (.lst []) = H3 at *
  generalize hg3 : s2.heap.push { cls := .type "list", data := .seq ([] : List Value).toArray } = g3 at *
  have up3 : ∀ b o, s2.heap.get? b = some o → g3.get? b = some o := fun b o e => by rw [← hg3]; exact Heap.get?_push_of_some _ e
  have sz3 : g3.objs.size = D + 1 := by rw [← hg3, Heap.size_push, hDe]
  have st3 : tn 0 g3 := T.keep _ _ _ st2 fun b _ o e => up3 b o e
  have fl : ∀ b ∈ fp, b < g3.objs.size := fun b hb => by
    obtain ⟨o, e, _⟩ := T.obj _ _ st3 b hb
    exact Heap.lt_size e
  have nD : ∀ b ∈ fp, b ≠ D := fun b hb => by
    obtain ⟨o, e, _⟩ := T.obj _ _ st2 b hb
    have := Heap.lt_size e
    rw [hDe] at this
    exact Nat.ne_of_lt this
  have f3 : ∀ b ∈ fp, FpOk X pins H3 b := fun b hb => ⟨by rw [← hH3, upd_ne (nD b hb)]; exact (f2 b hb).1, (f2 b hb).2⟩
  refine wpAny_newFunctionEnv B.cell (by intro y hy; simp at hy) (fun h1 hn1 hs1 => ?_) B.kind
  dsimp only at hn1 hs1 ⊢
  have up4 : ∀ b o, g3.get? b = some o → h1.get? b = some o := fun b o e => hs1.extBut b o (Nat.ne_of_lt (Heap.lt_size e)) (Heap.get?_push_of_some _ e)
  have st4 : tn 0 h1 := T.keep _ _ _ st3 fun b _ o e => up4 b o e
  have J0 : Inv (blk X scope NB g3.objs.size { s2 with heap := g3 } H3 fp) [] (carry fr σ) H3 { s2 with heap := h1, toks := s2.toks + ([] : List (Str × Value)).length } :=
    blk_start (s := { s2 with heap := g3 }) (fp := fp) B I3 (fun b hb => ⟨f3 b hb, fl b hb⟩) (Nat.le_refl _) up4 hn1
  have fpY : ∀ {H' : Hp}, (∀ b ∈ fp, H' b = none) → ∀ b ∈ fp, FpOk (blk X scope NB g3.objs.size { s2 with heap := g3 } H3 fp) [] H' b := fun hn b hb =>
    ⟨hn b hb, Nat.ne_of_lt (fl b hb), J0.ok.exfs b hb, .inl hb, fun x c e => (f3 b hb).2.2.2.2.1 x c (blk_cells e), fun p hp => absurd (show p ∈ ([] : List (Addr × Obj)) from hp) (by simp)⟩
  have back : ∀ {σ' : St} {H' : Hp} {s' : Shared}, Inv (blk X scope NB g3.objs.size { s2 with heap := g3 } H3 fp) [] σ' H' s' → Inv X pins σ H' s' ∧ FpOk X pins H' g3.objs.size ∧ ∃ m, s'.heap.Ns g3.objs.size m := fun {σ' H' s'} K => by
    refine ⟨I3.call' (ch := fp) K.os K.base K.hok K.bare fun b hb => ⟨(f3 b hb).2.2.2.1, (f3 b hb).2.1, (f3 b hb).2.2.2.2.1, (f3 b hb).2.2.2.2.2⟩, ?_, ?_⟩
    · exact I3.fpOk (Nat.le_refl _) K.free
    · obtain ⟨m, hm, _⟩ := K.loc
      exact ⟨m, hm⟩
  have loop : ∀ s3 : Shared, s3 = { s2 with heap := h1, toks := s2.toks + ([] : List (Str × Value)).length } →
      codeAny (model X.prog X.w) X.A (.compLoop (.ListComp elt [⟨tg, iter, ifs, 0⟩] scope pos) 0 (.ref it) (.ref D) (compEnvC scope (closes X.env scope.names []) g3.objs.size X.env)) (RR (.ref D) g3.objs.size) s3 := by
    rintro s3 rfl
    refine comp_turns (fun n s' => ∃ i ys H', Inv (blk X scope NB g3.objs.size { s2 with heap := g3 } H3 fp) [] (carry fr σ) H' s' ∧ tn i s'.heap ∧ (∀ b ∈ fp, H' b = none) ∧ W i n ys H') ?_ m0 ⟨0, [], H3, J0, st4, fun b hb => (f3 b hb).1, w0⟩
    rintro n s3 ⟨i, ys, H4, J4, st, fr4, w4⟩
    obtain ⟨hl4, alt⟩ := turn i n ys H4 w4
    rcases alt with ⟨stop, qn⟩ | ⟨go, hlen, N, hN, step⟩
    · refine thn (T.done (blk X scope NB g3.objs.size { s2 with heap := g3 } H3 fp) rfl rfl rfl hcalm i [] s3 (carry fr σ) H4 (fun _ _ => False) J4 (fpY fr4) st stop) fun r s5 ⟨hr, J5⟩ => ?_
      subst hr
      obtain ⟨K1, K2, K3⟩ := back J5
      exact hRR D g3.objs.size H4 s5 K1 K2 K3 qn
    · refine thn (T.item (blk X scope NB g3.objs.size { s2 with heap := g3 } H3 fp) rfl rfl rfl hcalm i [] s3 (carry fr σ) H4 (fun _ _ => False) J4 (fpY fr4) st go) fun r s5 ⟨u, hr, h5⟩ => ?_
      subst hr
      refine thn h5 fun _ s6 ⟨x, H6, J6, r6, y6, st6, fr6⟩ => ?_
      have J6' := J6.pinned (fpY fr6) (T.obj _ _ st6)
      refine thn (hg _ _ _ _ _ s6 (carry fr σ) H6 x u _ J6' r6 (step x H6 y6)) fun _ s7 ⟨σ7, H7, J7, wk, q7⟩ => ?_
      have again : ∀ {ys' : List V} {H8 : Hp} {s8 : Shared}, Inv (blk X scope NB g3.objs.size { s2 with heap := g3 } H3 fp) ([] ++ pinsAt fp s6.heap) σ7 H8 s8 → N ys' H8 →
          ∃ m, m < n ∧ ∃ i ys H', Inv (blk X scope NB g3.objs.size { s2 with heap := g3 } H3 fp) [] (carry fr σ) H' s8 ∧ tn i s8.heap ∧ (∀ b ∈ fp, H' b = none) ∧ W i m ys H' := fun {ys' H8 s8} J8 n8 => by
        obtain ⟨m', hm, w8⟩ := hN ys' H8 n8
        refine ⟨m', hm, i + 1, ys', H8, J8.unpinned.weak wk.1.symm wk.2, T.keep _ _ _ st6 fun b hb o e => (J8.pin (b, o) (List.mem_append_right _ (List.mem_append_right _ (mem_pinsAt hb e)))).1, fun b hb => ?_, w8⟩
        obtain ⟨o, e, d⟩ := T.obj _ _ st6 b hb
        exact (J8.pin (b, o) (List.mem_append_right _ (List.mem_append_right _ (mem_pinsAt hb e)))).2.1
      have tests : wpAny (model X.prog X.w) X.A (forIn ifs true fun c r => if r = true then do let ok ← isTrue c (compEnvC scope (closes X.env scope.names []) g3.objs.size X.env) (eval c (compEnvC scope (closes X.env scope.names []) g3.objs.size X.env)); pure (ForInStep.yield ok) else pure (ForInStep.yield r))
          (TP (blk X scope NB g3.objs.size { s2 with heap := g3 } H3 fp) ([] ++ pinsAt fp s6.heap) σ7 fun b H3' => if b = true then te σ7 H3' fun y H4' => H4' D = some (.lst ys) ∧ N (ys ++ [y]) (upd H4' D (.lst (ys ++ [y]))) else N ys H3') (fun _ _ => False) s7 := by
        generalize hif g3.objs.size { s2 with heap := g3 } H3 fp = PF
        cases PF with
        | nil => exact wpAny_tests_nil ⟨H7, J7, q7⟩
        | one hpt => exact wpAny_tests_one (hpt _ s7 σ7 H7 _ J7 q7)
      refine thn tests fun ok s8 ⟨H8, J8, q8⟩ => ?_
      cases ok with
      | false => exact again J8 q8
      | true =>
        rw [if_pos rfl]
        refine thn (he _ _ _ _ _ s8 σ7 H8 _ J8 q8) fun y s9 ⟨yv, H9, J9, r9, hD9, n9⟩ => ?_
        refine thn (mt_append (X := blk X scope NB g3.objs.size { s2 with heap := g3 } H3 fp) _ s9 σ7 H9 (.ref D) [yv] (.ref D) [y] (fun v H' => v = .non ∧ N (ys ++ [yv]) H') J9 rfl (.cons r9 .nil) ⟨D, ys, yv, rfl, rfl, hD9, hlen, rfl, n9⟩) fun _ s10 ⟨_, H10, J10, _, _, n10⟩ => ?_
        exact again J10 n10
  exact codeAny_compStart_list (loop _ rfl) (T.self _ 0 _ _ _ st4 (loop _ rfl))
theorem pe_comp {sc : Scope} {N : List Str} (hcalm : X.calm = true) (B' : BlkOk sc N scope NB fr) (hi : PI X tg iter wi) (hg : ∀ C s H fp, PG (blk X scope NB C s H fp) tg g) (hif : ∀ C s H fp, PIfs (blk X scope NB C s H fp) ifs tc) (he : ∀ C s H fp, PE (blk X scope NB C s H fp) elt te)
    (hs : ∀ x, foldedSetIterable iter X.env x = pure x := by intro _; rfl) (hsc : X.env.scope = sc := by rfl) (hNN : X.N = N := by rfl) : PE X (.ListComp elt [⟨tg, iter, ifs, 0⟩] scope pos) (tComp fr wi g tc te) := by
  have B : BlkOk X.env.scope X.N scope NB fr := by rw [hsc, hNN]; exact B'
  intro pins s σ H Q I h
  rw [eval_ListComp]
  refine wpAny_comprehension_free (use := none) rfl hs (closureFor_closes (B.closed I)) B.kind B.names (thn (hi pins s σ H _ I h) fun v s1 h1 => thn h1 fun itv s2 h2 => ?_)
  refine blk_run hcalm B hg hif he h2 (RR := fun acc C => compPost (model X.prog X.w) X.A X.xe none (EP X pins σ Q) acc C) fun D C H' s' I' f ⟨m, hm⟩ q => ?_
  exact ⟨m, hm, fun h'' hs'' => ⟨.ref D, H', I'.lost hs'' f, rfl, q⟩⟩
/-- x = [..]: the name is stored ahead of the block's names' end -/
theorem ps_comp {sc : Scope} {N : List Str} {i : Nat} {x : Str} {px spos : Pos} (hN : X.N.Nodup) (hix : X.N[i]? = some x) (hx : X.env.scope.names.lookup x = some .local) (hcalm : X.calm = true) (B' : BlkOk sc N scope NB fr) (hi : PI X tg iter wi)
    (hg : ∀ C s H fp, PG (blk X scope NB C s H fp) tg g) (hif : ∀ C s H fp, PIfs (blk X scope NB C s H fp) ifs tc) (he : ∀ C s H fp, PE (blk X scope NB C s H fp) elt te)
    (hsw : swapsWith (.ListComp elt [⟨tg, iter, ifs, 0⟩] scope pos) (some (.Name x px)) spos.line X.env = pure true := by rfl)
    (hs : ∀ x, foldedSetIterable iter X.env x = pure x := by intro _; rfl) (hsc : X.env.scope = sc := by rfl) (hNN : X.N = N := by rfl) : PS X (.Assign [.Name x px] (.ListComp elt [⟨tg, iter, ifs, 0⟩] scope pos) spos) (tAsg (tComp fr wi g tc te) (gName i)) := by
  have B : BlkOk X.env.scope X.N scope NB fr := by rw [hsc, hNN]; exact B'
  intro pins s σ H D I h
  rw [exec_Assign_Name_used _ _ _ _ hsw]
  refine wpAny_bind (wpAny_standAt (wpAny_bind ?_))
  show wpAny _ _ (do let _ ← comprehension (.ListComp elt [⟨tg, iter, ifs, 0⟩] scope pos) scope X.env _ (newList []) false (eval iter X.env) (some (assign (.Name x px) X.env))) _ _ s
  refine wpAny_bind (wpAny_mono (wpAny_comprehension_free (use := some (assign (.Name x px) X.env)) (Q := fun _ s' => SP X pins D .next s') rfl hs (closureFor_closes (B.closed I)) B.kind B.names
    (thn (hi pins s σ H _ I h) fun v s1 h1 => thn h1 fun itv s2 h2 => ?_)) (fun _ s' hq => wpAny_pure (wpAny_pure hq)) fun _ _ z => z)
  refine blk_run hcalm B hg hif he h2 (RR := fun acc C => compPost (model X.prog X.w) X.A X.xe (some (assign (.Name x px) X.env)) (fun _ s' => SP X pins D .next s') acc C) fun Dl C H' s' I' f ⟨m, hm⟩ q => ?_
  show wpAny _ _ (assign (.Name x px) X.env (.ref Dl)) _ _ _
  refine wpAny_assign_Name (store_ok2 I' hN hix (.inl hx) (v := .ref Dl) rfl (fun s3 I3 ⟨a, hs3, ha⟩ => ?_) (.inr hx))
  have ne : C ≠ a := by
    rcases ha with e | e
    · rw [e]; exact f.2.1
    · exact fun z => f.2.2.2.2.1 x a e z.symm
  exact ⟨m, hm.sameBut hs3 ne, fun h'' hs'' => ⟨_, H', I3.lost hs'' f, q⟩⟩
end
end L2

set_option Elab.async false
set_option linter.all false
set_option maxRecDepth 100000
set_option maxHeartbeats 4000000
namespace L2
open PySem PySem.Spec PyProof.Rows

/-! ## M6. calls of the text's own defs, in short -/
structure Cal (P : Program) (w : World) (K : PySem.W.Frag) (mg : Str → Option Value) (base : Heap) (k : Nat) (x : Str) (ps : List Str) (sp : Sp) : Prop where
  ex : ∃ f fd, FnOk P w K mg base CX0 k f fd ps sp ∧ mg x = some (.ref f) ∧ PySem.W.keepIn K (.ref f) = true ∧ Binds K fd ps []
section
variable {X : Cx} {k : Nat} {x : Str} {ps : List Str} {sp : Sp} {p pos : Pos} {e : Expr} {es : List Expr} {t : TA}
theorem pe_cal (C : Cal X.prog X.w X.K X.mg X.base k x ps sp) (hr : Room k X.A) (hg : Gl X x) (ha : PA X (e :: es) t) (hdb : (x == ("__debug__" : Str)) = false := by decide)
    (he : starEach (e :: es) X.env = (false, eval e X.env) :: starEach es X.env := by rfl) (hpl : (backTo pos (starEach es X.env)).any (·.1) = false := by rfl) : PE X (.Call (.Name x p) (e :: es) [] pos) (tCall sp [] E0 t) := by
  obtain ⟨f, fd, G, m, kk, b⟩ := C.ex
  exact pe_call G hr hg m kk b .nil pass0 ha hdb he hpl
theorem pe_cal0 (C : Cal X.prog X.w X.K X.mg X.base k x ps sp) (hr : Room k X.A) (hg : Gl X x) (hdb : (x == ("__debug__" : Str)) = false := by decide) : PE X (.Call (.Name x p) [] [] pos) (tCall sp [] E0 tNil) := by
  obtain ⟨f, fd, G, m, kk, b⟩ := C.ex
  exact pe_call0 G hr hg m kk b .nil pass0 hdb
end
/-- the names of Python's own that no def hides -/
structure Txt (BN : List Str) (mg : Str → Option Value) : Prop where
  nb : ∀ x ∈ BN, mg x = none

/-! ## M7. more of Python's own -/
/-- // by a positive divisor of some figures -/
def CDivP (_ j : Int) : Prop := 0 < j ∧ Bits 9000 j
section
variable {X : Cx}
theorem op_fdivP : OpR X (binaryOp .FloorDiv) (rI CDivP fun i j => .int (i / j)) := opI fun i j _ _ _ _ _ hc q => by
  have h1 : (0 : Int) < j := hc.1
  exact floordiv_int (by omega) (by rw [Int.fdiv_eq_ediv_of_nonneg i (by omega)]; exact q) (.inl (PyProof.noPylong_of_log2 (hc.2.log2 (by decide))))
/-- a class that is asked for -/
def clsV : V → Option Value
  | .ty n => some (.type n)
  | .ref C => some (.ref C)
  | _ => none
theorem clsV_rel {c : V} {u cv : Value} (h : clsV c = some cv) (r : RelV c u) : u = cv := by
  cases c with
  | ty n => cases h; exact r
  | ref C => cases h; exact r
  | _ => cases h
theorem call_isi : CallR X (.builtin "isinstance") (fun xs H Q => ∃ x c t cv b, xs = [x, c] ∧ clsV c = some cv ∧ TyOf X.K H x t ∧ PySem.W.kitOne X.K t cv = some b ∧ Q (.bl b) H) := by
  intro pins s σ H xs us Q I r h
  obtain ⟨x, c, t, cv, b, rfl, hc, ty, e, q⟩ := h
  obtain ⟨u, u', rfl, r1, r2⟩ := vals2 r
  obtain rfl := clsV_rel hc r2
  exact isinst_ok I r1 ty e fun tk => ⟨.bl b, H, I.tok tk, rfl, q⟩
theorem pe_ty {BN : List Str} {pos : Pos} (T : Txt BN X.mg) (n : String) (hg : Gl X (Str.ofString n) := by rfl) (hn : Str.ofString n ∈ BN := by decide) (hv : bootBuiltins (Str.ofString n) = some (.type n) := by decide +kernel)
    (h1 : Str.ofString n ≠ "__name__" := by decide) (h2 : (Str.ofString n == ("__debug__" : Str)) = false := by decide) : PE X (.Name (Str.ofString n) pos) (tC (.ty n)) := pe_bltn hg (T.nb _ hn) hv rfl h1 h2
/-- sum of a list of ints -/
theorem call_sumI (hc : X.calm = true) : CallR X (.builtin "sum") (fun xs H Q => ∃ (a : Addr) (ns : List Int), xs = [.ref a] ∧ SqL X.K H a (ns.map V.int) ∧ Q (.int ns.sum) H) := by
  intro pins s σ H xs us Q I r h
  obtain ⟨a, ns, rfl, hs, q⟩ := h
  obtain ⟨u, rfl, r1⟩ := vals1 r
  obtain rfl : u = Value.ref a := r1
  obtain ⟨its, rv, p, hz⟩ := I.list hs
  have hi := intsAre_of rv
  obtain ⟨m, F⟩ := I.fr
  have N : News X.base X.env.locals s.heap [] := fun q hq => absurd hq (by simp)
  obtain ⟨zs, hx⟩ := hi.allInts.items
  have hl' : s.heap.IsList a (intItems zs) := hx ▸ p.isList
  refine sum_intListG (I.ok.hd hc) hl' fun h' tk t' hk => ?_
  have e1 : ns = zs.toList.map (·.1) := by
    rw [← nums_intItems, ← hx]
    exact (show numsOf its.toArray.toList = ns from hi.numsOf).symm
  have e2 : preSum (numAt zs) zs.size = ns.sum := by
    rw [preSum_eq, List.take_of_length_le (by simp), e1]
  rw [e2]
  exact ⟨.int ns.sum, H, I.kept hk, ⟨_, rfl⟩, q⟩
theorem bools_of {bs : List Bool} : ∀ {us : List Value}, Vals (bs.map V.bl) us → LSm.BoolsAre us bs := by
  induction bs with
  | nil => intro us r; cases r; exact .nil
  | cons b bs ih =>
    intro us r
    rw [List.map_cons] at r
    cases r with
    | cons r1 r2 =>
      obtain rfl := (show _ = Value.bool b from r1)
      exact .cons b (ih r2)
theorem call_allB (hc : X.calm = true) : CallR X (.builtin "all") (fun xs H Q => ∃ (a : Addr) (bs : List Bool), xs = [.ref a] ∧ SqL X.K H a (bs.map V.bl) ∧ Q (.bl (bs.all id)) H) := by
  intro pins s σ H xs us Q I r h
  obtain ⟨a, bs, rfl, hs, q⟩ := h
  obtain ⟨u, rfl, r1⟩ := vals1 r
  obtain rfl : u = Value.ref a := r1
  obtain ⟨its, rv, p, hz⟩ := I.list hs
  have hb := bools_of rv
  have hlt : a < s.heap.objs.size := by obtain ⟨_, e, _⟩ := p.isList; exact Heap.lt_size e
  refine call_all_walk (wpAny_pyIter_list p.isList ?_)
  refine ⟨s.heap.objs.size, [s.heap.objs.size, a], [s.heap.objs.size], its.toArray.size, _, _, fun i => (bs[i]?).getD true, rfl, Walks.list (A := X.A.in1) (I.ok.hd hc) _ a (Nat.ne_of_lt hlt) its.toArray,
    ⟨⟨_, Heap.get?_push_size _ rfl, rfl, rfl⟩, p.isList.push _⟩, fun i v s' Q' E' hP hQ => ?_, fun h' tk hk => ?_⟩
  · obtain ⟨b, e, rfl⟩ := hb.get i v (by simpa using hP)
    simp only [e, Option.getD_some] at hQ
    exact wpAny_truthy_bool hQ
  · have e : ((List.range its.toArray.size).all fun i => (bs[i]?).getD true) = bs.all id := by
      rw [List.size_toArray, hb.length]; exact LSm.range_all bs
    rw [e]
    exact ⟨.bl (bs.all id), H, I.kept (LSm.kept_iter hk), rfl, q⟩
theorem call_minL (hc : X.calm = true) : CallR X (.builtin "min") (fun xs H Q => ∃ (a : Addr) (ns : List Int), xs = [.ref a] ∧ SqL X.K H a (ns.map V.int) ∧ 0 < ns.length ∧ ∀ m, m ∈ ns → (∀ b ∈ ns, m ≤ b) → Q (.int m) H) := by
  intro pins s σ H xs us Q I r h
  obtain ⟨a, ns, rfl, hs, hn, q⟩ := h
  obtain ⟨u, rfl, r1⟩ := vals1 r
  obtain rfl : u = Value.ref a := r1
  obtain ⟨its, rv, p, hz⟩ := I.list hs
  obtain ⟨zs, e⟩ := (intsAre_of rv).allInts.items
  have hns : ns = zs.toList.map (·.1) := by rw [← (intsAre_of rv).numsOf, ← nums_intItems, ← e]
  have hsz : 0 < zs.size := by have h3 := hn; rw [hns, List.length_map, Array.length_toList] at h3; exact h3
  have hl := p.isList
  rw [e] at hl
  refine min_intList (I.ok.hd hc) hl hsz fun v h' tk hv hk => ?_
  obtain ⟨t, rfl⟩ := intItems_at hv
  obtain ⟨h1, h2⟩ := argBest_lt (numAt zs) (zs.size - 1)
  have e3 : ∀ k, k < zs.size → numAt zs k ∈ ns := fun k hk => by
    rw [hns]
    refine List.mem_map.mpr ⟨zs[k], by simp, ?_⟩
    simp [numAt, hk]
  have e4 : ∀ b ∈ ns, ∃ k, k < zs.size ∧ numAt zs k = b := fun b hb => by
    rw [hns] at hb
    obtain ⟨y, hy, rfl⟩ := List.mem_map.mp hb
    obtain ⟨k, hk, hk2⟩ := List.getElem_of_mem hy
    have hk' : k < zs.size := by simpa using hk
    refine ⟨k, hk', ?_⟩
    simp [numAt, hk', ← hk2]
  refine ⟨.int (numAt zs (argBest (fun i j => decide (numAt zs i < numAt zs j)) (zs.size - 1))), H, I.kept hk, ⟨_, rfl⟩, q _ (e3 _ (by omega)) fun b hb => ?_⟩
  obtain ⟨k, hk1, rfl⟩ := e4 b hb
  exact h2 k (by omega)
end
/-! ## M8. heaps that have all that was there -/
theorem Same.new {H : Hp} {p : Addr} (h : H p = none) (o : HO) : Same H (upd H p o) := fun b u q => by rw [upd_ne (ne_of_none q h)]; exact q
theorem Same.seqT {K : PySem.W.Frag} {H H' : Hp} {a : Addr} {xs : List V} (e : Same H H') (h : SqT K H a xs) : SqT K H' a xs := by
  rcases h with (h | ⟨o, h⟩) | h
  · exact .inl (.inl (e _ _ h))
  · exact .inl (.inr ⟨o, e _ _ h⟩)
  · exact .inr h
theorem Same.seqB {K : PySem.W.Frag} {b : Bool} {H H' : Hp} {a : Addr} {xs : List V} (e : Same H H') (h : SqB K b H a xs) : SqB K b H' a xs := by
  cases b
  · exact e.seq h
  · exact e.seqT h

/-! ## M8b. the same rules with the written part named: inside a comprehension's block -/
section
variable {X : Cx} {K : PySem.W.Frag} {pos : Pos}
theorem pg_tupK {es : List Expr} {k : Nat} {t : TGs} {n : Nat} (hK : X.K = K) (hc : X.calm = true) (h : PGs X es t)
    (hn : (assignEach es X.env).length = n := by rfl) (hst : (assignEach es X.env).findIdx? (·.1) = none := by rfl) : PG X (.Tuple es k pos) (gTup K n t) := by subst hK; exact pg_tup hc h hn hst
theorem ix_listK (hK : X.K = K) : IxR X (rIxL K) := by subst hK; exact ix_list
theorem ix_tupK (hK : X.K = K) : IxR X (rIxT K) := by subst hK; exact ix_tup
theorem sl_listK (hK : X.K = K) : SlR X (rSlL K) := by subst hK; exact sl_list
theorem sl_tupK (hK : X.K = K) : SlR X (rSlT K) := by subst hK; exact sl_tup
theorem op_catTK (hK : X.K = K) : OpR X (binaryOp .Add) (rCatT K) := by subst hK; exact op_catT
theorem call_lenK (hK : X.K = K) : CallR X (.builtin "len") (fun xs H Q => ∃ p ys, xs = [.ref p] ∧ (SqL K H p ys ∨ SqT K H p ys) ∧ Q (.int ys.length) H) := by subst hK; exact call_len_seq
theorem call_listK (hK : X.K = K) : CallR X (.type "list") (fun xs H Q => ∃ p ys, xs = [.ref p] ∧ (SqL K H p ys ∨ SqT K H p ys) ∧ ∀ l, H l = none → Q (.ref l) (upd H l (.lst ys))) := by subst hK; exact call_list_of
theorem call_tupleK (hK : X.K = K) : CallR X (.type "tuple") (fun xs H Q => ∃ p ys, xs = [.ref p] ∧ ((SqL K H p ys ∧ ∀ l, H l = none → Q (.ref l) (upd H l (.tup ys))) ∨ (SqT K H p ys ∧ Q (.ref p) H))) := by subst hK; exact call_tuple_of
theorem call_isiK (hK : X.K = K) : CallR X (.builtin "isinstance") (fun xs H Q => ∃ x c t cv b, xs = [x, c] ∧ clsV c = some cv ∧ TyOf K H x t ∧ PySem.W.kitOne K t cv = some b ∧ Q (.bl b) H) := by subst hK; exact call_isi
end

/-! ## M8c. comprehensions, by a word: turns done, items so far, heap -/
theorem comp_seq {J : It} {n : Nat} {fr : List (Option Nat)} {g : TG} {tc : TT} {te : TE} {D : Addr} {σ : St} {H1 : Hp} {Q : VK} (Pv : Nat → List V → Hp → Prop) (h0 : Pv 0 [] (upd H1 D (.lst [])))
    (hD : ∀ i ys H, i ≤ n → Pv i ys H → H D = some (.lst ys) ∧ ys.length ≤ i) (hgo : ∀ i ys H, i < n → Pv i ys H → J.go i H) (hstop : ∀ ys H, Pv n ys H → J.stop n H) (hn : n ≤ sizeLine)
    (hs : ∀ i ys H x H', i < n → Pv i ys H → J.yld i H x H' → g x (carry fr σ) H' fun σ2 H2 => Wk (carry fr σ) σ2 ∧ tc σ2 H2 fun b H3 => if b = true then te σ2 H3 fun y H4 => H4 D = some (.lst ys) ∧ Pv (i + 1) (ys ++ [y]) (upd H4 D (.lst (ys ++ [y]))) else Pv (i + 1) ys H3)
    (hd : ∀ ys H, Pv n ys H → Q (.ref D) H) : tTurns fr g tc te D J σ H1 Q := by
  refine ⟨fun i m ys H => m = n - i ∧ i ≤ n ∧ Pv i ys H, ⟨n, by simp, Nat.zero_le _, h0⟩, ?_⟩
  rintro i m ys H ⟨rfl, hi, p⟩
  obtain ⟨q, hl⟩ := hD i ys H hi p
  refine ⟨q, ?_⟩
  by_cases hlt : i < n
  · exact .inr ⟨hgo i ys H hlt p, by omega, Pv (i + 1), fun ys' H' p' => ⟨n - (i + 1), by omega, rfl, hlt, p'⟩, fun x H' y => hs i ys H x H' hlt p y⟩
  · have e : i = n := by omega
    subst e
    exact .inl ⟨hstop ys H p, hd ys H p⟩
theorem comp_list {K : PySem.W.Frag} {a : Addr} {xs : List V} {fr : List (Option Nat)} {g : TG} {tc : TT} {te : TE} {D : Addr} {σ : St} {H1 : Hp} {Q : VK} (Pv : Nat → List V → Hp → Prop) (h0 : Pv 0 [] (upd H1 D (.lst [])))
    (hD : ∀ i ys H, i ≤ xs.length → Pv i ys H → H D = some (.lst ys) ∧ ys.length ≤ i) (hl : ∀ i ys H, i ≤ xs.length → Pv i ys H → SqL K H a xs) (hn : xs.length ≤ sizeLine)
    (hs : ∀ i x ys H, xs[i]? = some x → Pv i ys H → g x (carry fr σ) H fun σ2 H2 => Wk (carry fr σ) σ2 ∧ tc σ2 H2 fun b H3 => if b = true then te σ2 H3 fun y H4 => H4 D = some (.lst ys) ∧ Pv (i + 1) (ys ++ [y]) (upd H4 D (.lst (ys ++ [y]))) else Pv (i + 1) ys H3)
    (hd : ∀ ys H, Pv xs.length ys H → Q (.ref D) H) : tTurns fr g tc te D (Itl K a) σ H1 Q := by
  refine comp_seq (n := xs.length) Pv h0 hD (fun i ys H hi p => ⟨xs, xs[i], hl i ys H (Nat.le_of_lt hi) p, by simp [hi]⟩) (fun ys H p => ⟨xs, hl _ ys H (Nat.le_refl _) p, Nat.le_refl _⟩) hn (fun i ys H x H' hi p y => ?_) hd
  obtain ⟨e, y⟩ := y
  subst e
  exact hs i x ys _ (y xs (hl i ys _ (Nat.le_of_lt hi) p)) p
theorem comp_tup {K : PySem.W.Frag} {a : Addr} {xs : List V} {fr : List (Option Nat)} {g : TG} {tc : TT} {te : TE} {D : Addr} {σ : St} {H1 : Hp} {Q : VK} (Pv : Nat → List V → Hp → Prop) (h0 : Pv 0 [] (upd H1 D (.lst [])))
    (hD : ∀ i ys H, i ≤ xs.length → Pv i ys H → H D = some (.lst ys) ∧ ys.length ≤ i) (hl : ∀ i ys H, i ≤ xs.length → Pv i ys H → SqT K H a xs) (hn : xs.length ≤ sizeLine)
    (hs : ∀ i x ys H, xs[i]? = some x → Pv i ys H → g x (carry fr σ) H fun σ2 H2 => Wk (carry fr σ) σ2 ∧ tc σ2 H2 fun b H3 => if b = true then te σ2 H3 fun y H4 => H4 D = some (.lst ys) ∧ Pv (i + 1) (ys ++ [y]) (upd H4 D (.lst (ys ++ [y]))) else Pv (i + 1) ys H3)
    (hd : ∀ ys H, Pv xs.length ys H → Q (.ref D) H) : tTurns fr g tc te D (Itt K a) σ H1 Q := by
  refine comp_seq (n := xs.length) Pv h0 hD (fun i ys H hi p => ⟨xs, xs[i], hl i ys H (Nat.le_of_lt hi) p, by simp [hi]⟩) (fun ys H p => ⟨xs, hl _ ys H (Nat.le_refl _) p, Nat.le_refl _⟩) hn (fun i ys H x H' hi p y => ?_) hd
  obtain ⟨e, y⟩ := y
  subst e
  exact hs i x ys _ (y xs (hl i ys _ (Nat.le_of_lt hi) p)) p
theorem comp_zip {K : PySem.W.Frag} {b1 b2 : Bool} {a1 a2 : Addr} {us vs : List V} {fr : List (Option Nat)} {g : TG} {tc : TT} {te : TE} {D : Addr} {σ : St} {H1 : Hp} {Q : VK} (Pv : Nat → List V → Hp → Prop) (h0 : Pv 0 [] (upd H1 D (.lst [])))
    (hD : ∀ i ys H, i ≤ min us.length vs.length → Pv i ys H → H D = some (.lst ys) ∧ ys.length ≤ i) (hl : ∀ i ys H, i ≤ min us.length vs.length → Pv i ys H → SqB K b1 H a1 us ∧ SqB K b2 H a2 vs) (hn : us.length ≤ sizeLine)
    (hs : ∀ i x y T ys H, us[i]? = some x → vs[i]? = some y → H T = none → Pv i ys H → g (.ref T) (carry fr σ) (upd H T (.tup [x, y])) fun σ2 H2 => Wk (carry fr σ) σ2 ∧ tc σ2 H2 fun b H3 => if b = true then te σ2 H3 fun y H4 => H4 D = some (.lst ys) ∧ Pv (i + 1) (ys ++ [y]) (upd H4 D (.lst (ys ++ [y]))) else Pv (i + 1) ys H3)
    (hd : ∀ ys H, Pv (min us.length vs.length) ys H → Q (.ref D) H) : tTurns fr g tc te D (Itz K b1 b2 a1 a2) σ H1 Q := by
  refine comp_seq (n := min us.length vs.length) Pv h0 hD (fun i ys H hi p => ?_) (fun ys H p => ?_) (by omega) (fun i ys H x H' hi p y => ?_) hd
  · obtain ⟨h1, h2⟩ := hl i ys H (Nat.le_of_lt hi) p
    have e1 : i < us.length := by omega
    have e2 : i < vs.length := by omega
    exact ⟨us, vs, us[i], vs[i], h1, h2, by simp [e1], by simp [e2]⟩
  · obtain ⟨h1, h2⟩ := hl _ ys H (Nat.le_refl _) p
    exact ⟨us, vs, h1, h2, by omega⟩
  · obtain ⟨h1, h2⟩ := hl i ys H (Nat.le_of_lt hi) p
    obtain ⟨T, v, u, e1, e2, e3, y1, y2⟩ := y
    subst e1 e3
    exact hs i v u T ys _ (y1 us h1) (y2 vs h2) e2 p
/-- what was there and what is new, apart from D -/
theorem Same.upd_old {H H' : Hp} {D : Addr} {o : HO} (e : Same H H') (h : H D = none) : Same H (upd H' D o) := fun b u q => by
  rw [upd_ne (fun z => by rw [z, h] at q; cases q)]; exact e b u q
theorem tYes_then {σ : St} {H : Hp} {A B : Hp → Prop} (h : A H) : tYes σ H (fun b H3 => if b = true then A H3 else B H3) := by
  show if true = true then A H else B H
  exact iteT h
end L2

set_option Elab.async false
set_option linter.all false
set_option maxRecDepth 100000
set_option maxHeartbeats 4000000
namespace L2
open PySem PySem.Spec PyProof.Rows

/-! ## M9. exceptions of the text's own classes -/
/-- how one lies behind a call: C its class, H' the abstract heap; B: all that stood, but the frames that run and the exception's own records -/
def CXE (P : Program) (w : World) : CXT := fun outer H s E ev s' =>
  ∃ (e C : Addr) (a0 : Value) (B : Heap) (H' : Hp), ev = .ref e ∧ s'.os = s.os ∧ AllBare s'.gens ∧ Un (frs outer) [] H H' s.heap s'.heap ∧ HOk P w H' s'.heap ∧
    Heap.FlyingW B outer e (.ref C) a0 s'.heap ∧ (∀ b u, H' b = some u → ∃ o, B.get? b = some o) ∧ (∀ b o, s.heap.get? b = some o → b ∉ frs outer → ∃ o', B.get? b = some o') ∧ s.heap.get? e = none ∧ E (.ref C) none H'
theorem hok_there {P : Program} {w : World} {H : Hp} {h : Heap} {a : Addr} {o : HO} (x : ObjOk P w H h a o) : ∃ ob, h.get? a = some ob := by
  cases o with
  | lst xs => obtain ⟨_, _, _, _, e⟩ := x; exact ⟨_, e⟩
  | tup xs => obtain ⟨_, _, _, o, e, _⟩ := x; exact ⟨o, e⟩
  | dK kvs => obtain ⟨_, _, _, _, o, _, _, e, _⟩ := x; exact ⟨o, e⟩
  | dT kvs => obtain ⟨_, _, _, _, o, _, _, e, _⟩ := x; exact ⟨o, e⟩
  | set S n => obtain ⟨o, _, _, _, e, _⟩ := x; exact ⟨o, e⟩
  | ins C dx fs => obtain ⟨_, _, _, e, _⟩ := x; exact ⟨_, e⟩
  | own y => obtain ⟨o, e⟩ := x; exact ⟨o, e⟩
  | xd fs => obtain ⟨_, ⟨o, _, _, e, _⟩, _⟩ := x; exact ⟨o, e⟩
  | rng lo hi => obtain ⟨_, _, _, e⟩ := x; exact ⟨_, e⟩
  | frz ob u => obtain ⟨e, _⟩ := x; exact ⟨_, e⟩
  | tbl ps => exact ⟨_, (show h.get? a = some _ from x)⟩
  | met f y => exact ⟨_, (show h.get? a = some _ from x)⟩
  | ext φ => obtain ⟨_, e, _⟩ := x; exact e
theorem no_fs {b : Addr} : b ∉ ([] : List Addr) := by simp
section
variable {X : Cx} {pins : List (Addr × Obj)} {σ : St} {H : Hp} {s : Shared} {g h' B : Heap} {e C : Addr} {a0 : Value} {E : XK}
/-- what B has stays as it is -/
theorem stay_by (hs : B.StaysIn g) (hs' : B.StaysIn h') {b : Addr} {o o' : Obj} (hb : B.get? b = some o') (hg : g.get? b = some o) : h'.get? b = some o := by
  have q := hs b o' hb
  rw [hg] at q
  cases q
  exact hs' b o hb
theorem hok_by {P : Program} {w : World} (hok : HOk P w H g) (hs : B.StaysIn g) (hs' : B.StaysIn h') (hT : ∀ b u, H b = some u → ∃ o, B.get? b = some o) : HOk P w H h' := fun b u q =>
  (hok b u q).stay (fun c v hc r => by
    have ⟨o', z⟩ : ∃ o', B.get? c = some o' := by
      rcases hc with z | z
      · rw [z]; exact hT b u q
      · exact hT c _ z
    exact stay_by hs hs' z r) (fun _ r => r) fun _ _ r => r
theorem leave_fin (I : Inv X pins σ H s) (hex : X.ex = []) (gk : ∀ b o, s.heap.get? b = some o → g.get? b = some o) (fl : Heap.FlyingW B X.outer e (.ref C) a0 h') (up : g.UpToSlots h')
    (hB : ∀ b o, X.s₀.heap.get? b = some o → b ∉ frs X.outer → ∃ o', B.get? b = some o') (hT : ∀ b u, H b = some u → ∃ o, B.get? b = some o) (hs : B.StaysIn g) (he : X.s₀.heap.get? e = none) (hE : E (.ref C) none H) :
    CXE X.prog X.w X.outer X.H₀ X.s₀ E (.ref e) { s with heap := h' } := by
  have nx : ∀ b, b ∉ X.ex := fun b z => by rw [hex] at z; exact absurd z (by simp)
  have sl : ∀ b, b ∈ frs X.outer → ∃ o o', X.s₀.heap.get? b = some o ∧ h'.get? b = some o' ∧ (∀ o2, X.s₀.heap.get? b = some o2 → ∃ sl, o' = { o2 with slots := sl }) := fun b hb => by
    obtain ⟨_, o, ho, hd⟩ := I.ok.funs.mem hb
    obtain ⟨s1, e1⟩ := I.base.slot b o ho (I.ok.frf b hb) hb (nx b)
    obtain ⟨s2, e2⟩ := up b _ (gk b _ e1) hd
    exact ⟨o, _, ho, e2, fun o2 q => by rw [ho] at q; cases q; exact ⟨s2, rfl⟩⟩
  have gfl : HOk X.prog X.w H g := I.hok.kept gk
  refine ⟨e, C, a0, B, H, rfl, I.os, I.bare, ⟨fun b o q n hb _ => ?_, fun b o q n hb _ => ?_, fun b o q n _ => I.base.free b o q n (nx b), fun b o q _ => ?_, I.base.tups, I.base.frzs, I.base.tbls⟩, hok_by gfl hs fl.1 hT, fl, hT, hB, he, hE⟩
  · obtain ⟨o', z⟩ := hB b o q hb
    exact stay_by hs fl.1 z (gk b o (I.base.keep b o q n hb (nx b)))
  · obtain ⟨_, o', _, z, r⟩ := sl b hb
    obtain ⟨s2, r⟩ := r o q
    exact ⟨s2, by rw [z, r]⟩
  · by_cases hb : b ∈ frs X.outer
    · obtain ⟨_, o', _, z, _⟩ := sl b hb
      exact ⟨o', z⟩
    · obtain ⟨o', z⟩ := hB b o q hb
      exact ⟨o', fl.1 b o' z⟩
theorem Inv.older (I : Inv X pins σ H s) {b : Addr} {o : Obj} (q : X.s₀.heap.get? b = some o) (hb : b ∉ frs X.outer) : b ∉ frs X.stack := fun z => by
  rcases List.mem_cons.mp (I.stkSub b z) with r | r
  · rw [r] at q; exact absurd (Nat.lt_of_lt_of_le (Heap.lt_size q) I.ok.above) (Nat.lt_irrefl _)
  · exact hb r
end
section
variable {P : Program} {w : World} {K : PySem.W.Frag} {mg : Str → Option Value} {base : Heap} {N : List Str} {qual : Str} {scope : Scope} {f : Addr} {cd : Value} {A : Around} {outer : List Env} {s₀ : Shared} {H₀ : Hp} {E : XK}
/-- raised in the body of a def: it leaves the frame -/
theorem raise_out {pins : List (Addr × Obj)} {σ : St} {H : Hp} {s : Shared} {h1 : Heap} {e C : Addr} {args : List Value} (I : Inv (cxOf (CXE P w) P w K mg base N qual scope f cd A outer s₀ H₀ E) pins σ H s) (hx : Heap.MadeExcOf s.heap h1 e (.ref C) args) (hE : E (.ref C) none H) :
    (cxOf (CXE P w) P w K mg base N qual scope f cd A outer s₀ H₀ E).xe (.ref e) { s with heap := h1 } := by
  have hin : ∀ env ∈ (envOfC qual scope s₀.heap.objs.size f cd :: outer), ∀ b, env.frame = some b → b ∈ frs (envOfC qual scope s₀.heap.objs.size f cd :: outer) := fun env he b hb => List.mem_filterMap.mpr ⟨env, he, hb⟩
  have hg : ∀ b o, s.heap.get? b = some o → b ∉ frs (envOfC qual scope s₀.heap.objs.size f cd :: outer) → (PySem.W.hideAll s.heap (frs (envOfC qual scope s₀.heap.objs.size f cd :: outer))).get? b = some o := fun b o q hb => PySem.W.hideAll_get _ q hb
  show wpAny _ _ («leaving» (envOfC qual scope s₀.heap.objs.size f cd) (.ref e)) _ _ _
  refine wpAny_leaves_madeW (base := PySem.W.hideAll s.heap (frs (envOfC qual scope s₀.heap.objs.size f cd :: outer))) (h := s.heap) I.ok.frames rfl (fun b o q => PySem.W.of_hideAll _ q) (PySem.W.funFrames_hide I.stack hin) hx fun h' t fl _ _ up => ?_
  refine leave_fin (g := h1) I rfl hx.keeps fl up (fun b o q hb => ?_) (fun b u q => ?_) (fun b o q => hx.keeps b o (PySem.W.of_hideAll _ q)) ?_ hE
  · obtain ⟨o', z⟩ := I.base.there b o q no_fs
    exact ⟨o', hg b o' z (I.older q hb)⟩
  · obtain ⟨o, z⟩ := hok_there (I.hok b u q)
    exact ⟨o, hg b o z fun hb => by rw [I.stkFree b hb] at q; cases q⟩
  · cases q : s₀.heap.get? e with
    | none => exact q
    | some o =>
      obtain ⟨o', z⟩ := I.base.there e o q no_fs
      rw [hx.new] at z; cases z
/-- an exception of a callee leaves the frame, too -/
theorem pass_out : Passes (CXE P w) (cxOf (CXE P w) P w K mg base N qual scope f cd A outer s₀ H₀ E) E := fun pins σ H s ev s' I h => by
  obtain ⟨e, C, a0, B, H', rfl, os, bare, un, hok, fl, hT, hB, he, hE⟩ := h
  have I' := I.call' os un hok bare (fun b z => absurd z (by simp))
  show wpAny _ _ («leaving» (envOfC qual scope s₀.heap.objs.size f cd) (.ref e)) _ _ _
  refine wpAny_leaves_onW I.ok.frames rfl fl fun h' fl' up => ?_
  refine leave_fin (g := s'.heap) I' rfl (fun _ _ q => q) fl' up (fun b o q hb => ?_) hT fl.1 ?_ hE
  · obtain ⟨o', z⟩ := I.base.there b o q no_fs
    exact hB b o' z (I.older q hb)
  · cases q : s₀.heap.get? e with
    | none => exact q
    | some o =>
      obtain ⟨o', z⟩ := I.base.there e o q no_fs
      rw [he] at z; cases z
end
end L2

set_option Elab.async false
set_option linter.all false
set_option maxRecDepth 100000
set_option maxHeartbeats 4000000
namespace L2
open PySem PySem.Spec PyProof.Rows

/-! ## M10. calls whose exceptions are wanted; raise; try -/
/-- what is wanted of an exception, by the names' values at the call -/
def PassG (CX : CXT) (X : Cx) (G : St → XK) : Prop := ∀ (pins : List (Addr × Obj)) (σ : St) (H : Hp) (s : Shared) (e : Value) (s' : Shared), Inv X pins σ H s → CX X.stack H s (G σ) e s' → X.xe e s'
def tCallG (sp : Sp) (dvs : List V) (G : St → XK) (t : TA) : TE := fun σ H Q => t σ H fun vs H1 => sp (vs ++ dvs) H1 Q (G σ)
/-- a def of the text that may raise -/
structure CalX (P : Program) (w : World) (K : PySem.W.Frag) (mg : Str → Option Value) (base : Heap) (k : Nat) (x : Str) (ps : List Str) (sp : Sp) : Prop where
  ex : ∃ f fd, FnOk P w K mg base (CXE P w) k f fd ps sp ∧ mg x = some (.ref f) ∧ PySem.W.keepIn K (.ref f) = true ∧ Binds K fd ps []
section
variable {X : Cx} {CX : CXT} {k : Nat} {f : Addr} {fd : FuncData} {ps : List Str} {sp : Sp} {dvs : List V} {ds : List Value} {G : St → XK} {x : Str} {p pos : Pos} {e : Expr} {es : List Expr} {t : TA}
theorem run_fnG {pins : List (Addr × Obj)} {σ : St} {H : Hp} {s : Shared} {Q : VK} {us : List Value} {vs : List V} (F : FnOk X.prog X.w X.K X.mg X.base CX k f fd ps sp) (hr : Room k X.A) (hb : Binds X.K fd ps ds) (hd : Vals dvs ds) (hx : PassG CX X G)
    (I : Inv X pins σ H s) (r : Vals vs us) (h : sp (vs ++ dvs) H Q (G σ)) : wpAny (model X.prog X.w) X.A (call (.ref f) us) (EP X pins σ Q) X.xe s := by
  have r2 : Vals (vs ++ dvs) (us ++ ds) := r.append hd
  have hl : (us ++ ds).length = ps.length := by rw [← r2.length]; exact F.len _ _ _ _ h
  refine wpAny_call (codeAny_mono (F.run X.A X.stack s H ⟨us, []⟩ (us ++ ds) (vs ++ dvs) Q (G σ) hr I.env0 (hb s us I.kIn hl) r2 h) fun r s' hq => ?_)
  cases r with
  | error e => exact hx pins σ H s e s' I hq
  | ok fl =>
    cases fl with
    | ret u => exact I.after hq
    | next => exact False.elim hq
    | brk => exact False.elim hq
    | cont => exact False.elim hq
theorem pe_calG (C : CalX X.prog X.w X.K X.mg X.base k x ps sp) (hr : Room k X.A) (hg : Gl X x) (hx : PassG (CXE X.prog X.w) X G) (ha : PA X (e :: es) t) (hdb : (x == ("__debug__" : Str)) = false := by decide)
    (he : starEach (e :: es) X.env = (false, eval e X.env) :: starEach es X.env := by rfl) (hpl : (backTo pos (starEach es X.env)).any (·.1) = false := by rfl) : PE X (.Call (.Name x p) (e :: es) [] pos) (tCallG sp [] G t) := by
  obtain ⟨f, fd, F, m, kk, b⟩ := C.ex
  intro pins s σ H Q I h
  refine wpAny_Call_Name_kw (ld_glob I hg m ?_ hdb)
  refine PySem.W.callWith_K (h₀ := X.base) I.ok.mod.kin kk (thn (ha pos pins s σ H _ I h) fun us s1 ⟨vs, H1, I1, r, q⟩ => ⟨I1.kIn, ?_⟩) he hpl
  exact run_fnG F hr b .nil hx I1 r q
end
/-- a class of the text's own under ValueError, without an __init__ -/
structure ExcC (K : PySem.W.Frag) (C : Addr) : Prop where
  ok : PySem.W.excIn K C [.type "ValueError", .type "Exception", .type "BaseException", .type "object"] "ValueError.__new__" = true
theorem ExcC.obj {K : PySem.W.Frag} {C : Addr} {h : Heap} (q : ExcC K C) (X : K.In h) : ∃ (bm : List Value) (N : Addr) (nm qn : Str) (bs : List Value) (hd : Bool) (sn : List Str) (sub : List Value) (ab : Bool) (col : Option Bool) (dd : Option Addr) (k0 k1 k2 k3 k5 : Option Value) (mN : Str → Option Value),
    h.get? C = some (excClassObj nm qn C N bs bm hd sn sub ab col dd k0 k1 k2 k3 k5 "ValueError.__new__") ∧ h.Ns N mN ∧ mN "__init__" = none ∧ OwnTail h [.type "ValueError", .type "Exception", .type "BaseException", .type "object"] bm := by
  have q := q.ok
  unfold PySem.W.excIn at q
  split at q
  · rename_i dd cd sl ho
    split at q
    · rename_i C' bm k0 k1 k2 k3 n k5 hm hs
      simp only [Bool.and_eq_true, beq_iff_eq, Bool.not_eq_true'] at q
      obtain ⟨⟨⟨⟨⟨rfl, rfl⟩, hdel⟩, ht⟩, hok⟩, hni⟩ := q
      obtain ⟨nm, bs, mro, ns, qn, hd, sn, sub, ab, col, del⟩ := cd
      dsimp only at hm hdel hok hni
      subst hm hdel
      have hsl : sl = #[k0, k1, k2, k3, some (.builtin "ValueError.__new__"), k5] := by
        obtain ⟨l⟩ := sl
        simp only at hs
        rw [hs]
      subst hsl
      exact ⟨bm, ns, nm, qn, bs, hd, sn, sub, ab, col, dd, k0, k1, k2, k3, k5, _, X _ _ ho, .of_isNs (PySem.W.isNs_of_in X hok), PySem.W.nsMap_none_of_in X hok hni, PySem.W.tail_of_in X ht⟩
    · cases q
  · cases q
/-- raise x(..), x the name of the class at C -/
def tRaise (C : Addr) (G : St → XK) (t : TA) : TS := fun _ σ H => t σ H fun vs H1 => vs.length ≤ sizeLine ∧ G σ (.ref C) none H1
/-- an exception that is raised here reaches what this code wants of exceptions -/
def RaiseG (X : Cx) (G : St → XK) : Prop := ∀ (pins : List (Addr × Obj)) (σ : St) (H : Hp) (s : Shared) (h1 : Heap) (e C : Addr) (args : List Value), Inv X pins σ H s → Heap.MadeExcOf s.heap h1 e (.ref C) args → G σ (.ref C) none H → X.xe (.ref e) { s with heap := h1 }
section
variable {X : Cx} {C : Addr} {G : St → XK} {x : Str} {np cpos pos : Pos} {e : Expr} {es : List Expr} {t : TA}
theorem ps_raise (hc : X.calm = true) (q : ExcC X.K C) (hg : Gl X x) (hm : X.mg x = some (.ref C)) (hx : RaiseG X G) (ha : PA X (e :: es) t)
    (he : starEach (e :: es) X.env = (false, eval e X.env) :: starEach es X.env := by rfl) (hpl : (backTo cpos (starEach es X.env)).any (·.1) = false := by rfl) (hdb : (x == ("__debug__" : Str)) = false := by decide) :
    PS X (.Raise (some (.Call (.Name x np) (e :: es) [] cpos)) none pos) (tRaise C G t) := by
  intro pins s σ H D I h
  have hpl' : (backTo cpos (starEach (e :: es) X.env)).any (·.1) = false := by
    rw [he]
    show ((false || (backTo cpos (starEach es X.env)).any (·.1))) = false
    rw [hpl]; rfl
  obtain ⟨bm, N, nm, qn, bs, hd, sn, sub, ab, col, dd, k0, k1, k2, k3, k5, mN, hC, hN, hni, TL⟩ := q.obj I.mod.kin
  refine wpAny_Raise_call_subU (C := C) (N := N) (nm := nm) (q := qn) (bs := bs) (bm := bm) (hdct := hd) (sn := sn) (sub := sub) (ab := ab) (col := col) (dd := dd) (k0 := k0) (k1 := k1) (k2 := k2) (k3 := k3) (k5 := k5) (mN := mN)
    PySem.F.excBase_ValueError (by decide +kernel) PySem.F.excBase_ValueError (TL.hasType (by decide +kernel)) (I.ok.hd hc) hpl' hni (ld_glob I hg hm ⟨rfl, ?_⟩ hdb)
  have pa := ha cpos pins s σ H _ I h
  rw [he] at pa ⊢
  show wpAny _ _ (evalArgs (.ref C) true ((false, eval e X.env) :: backTo cpos (starEach es X.env)) []) _ _ _
  refine Calls.evalArgs_plain (thn pa fun us s1 ⟨vs, H1, I1, r1, z, q1⟩ => ⟨rfl, (show us.length ≤ sizeLine by rw [← r1.length]; exact z), ?_⟩)
  exact ⟨I1.bk _ _ hC, hN.keeps I1.bk, TL.keeps I1.bk, fun h1 e1 hx1 => hx pins σ H1 s1 h1 e1 C us I1 hx1 q1⟩
end
section
variable {P : Program} {w : World} {K : PySem.W.Frag} {mg : Str → Option Value} {base : Heap} {N : List Str} {qual : Str} {scope : Scope} {f : Addr} {cd : Value} {A : Around} {outer : List Env} {s₀ : Shared} {H₀ : Hp} {E : XK}
theorem raiseG_out : RaiseG (cxOf (CXE P w) P w K mg base N qual scope f cd A outer s₀ H₀ E) (fun _ => E) := fun _ _ _ _ _ _ _ _ I hx hE => raise_out I hx hE
theorem passG_out : PassG (CXE P w) (cxOf (CXE P w) P w K mg base N qual scope f cd A outer s₀ H₀ E) (fun _ => E) := fun pins σ H s e s' I h => pass_out pins σ H s e s' I h
end
/-- a def that may raise -/
theorem Fun.okX {P : Program} {w : World} {K : PySem.W.Frag} {mg : Str → Option Value} {base : Heap} {x qual : Str} {st : Stmt} {f : Addr} {fd : FuncData} {N ps : List Str} {k : Nat} {sp : Sp} (F : Fun K x qual st f fd) (S : FnScope N ps (defScope st)) (len : ∀ vs H Q E, sp vs H Q E → vs.length = ps.length)
    (hbody : ∀ (cdv : Value) (A : Around) (outer : List Env) (s : Shared) (H : Hp) (vs : List V) (Q : VK) (E : XK), Room k (A.deeper (envOfC qual (defScope st) s.heap.objs.size f cdv)) → sp vs H Q E →
      ∃ t, PSs (cxOf (CXE P w) P w K mg base N qual (defScope st) f cdv A outer s H E) (defBody st) t ∧ t { nx := fun _ H' => Q .non H', rt := Q } (start N vs) H) : FnOk P w K mg base (CXE P w) (k + 1) f fd ps sp := by
  obtain ⟨oc, od, kV, doc, pm, an, cdv, ct, osl, rfl, lk, hcd⟩ := F.ex
  exact fn_of lk hcd S len fun A outer s H vs Q E hr hsp => hbody cdv A outer s H vs Q E hr hsp

/-! the body of a try -/
/-- pn: what the states bear; G: what is wanted of an exception -/
def tryC (X : Cx) (pn : List (Addr × Obj)) (G : St → XK) : Cx := { X with pn := pn, xe := fun ev s' => ∃ σ H s, Inv { X with pn := pn, xe := fun _ _ => False } [] σ H s ∧ CXE X.prog X.w X.stack H s (G σ) ev s' }
theorem Inv.like {X Y : Cx} {pins pins' : List (Addr × Obj)} {σ : St} {H : Hp} {s : Shared} (I : Inv X pins σ H s) (ok : Y.Ok) (h1 : Y.s₀ = X.s₀) (h2 : Y.H₀ = X.H₀) (h3 : Y.outer = X.outer) (h4 : Y.ex = X.ex) (h5 : Y.env = X.env) (h6 : Y.N = X.N) (h7 : Y.prog = X.prog) (h8 : Y.w = X.w)
    (hp : ∀ p ∈ Y.pn ++ pins', s.heap.get? p.1 = some p.2 ∧ H p.1 = none ∧ p.1 ≠ X.env.locals ∧ p.1 ∉ X.fs ∧ ∀ v, p.2.data ≠ .cell v) : Inv Y pins' σ H s := by
  refine ⟨ok, by rw [h1]; exact I.os, I.bare, by show Un (frs Y.outer) Y.ex Y.H₀ H Y.s₀.heap s.heap; rw [h1, h2, h3, h4]; exact I.base, by rw [h5, h6]; exact I.loc, by rw [h5]; exact I.cell, by rw [h5]; exact I.free, by rw [h5]; exact I.freeC, fun p hm => ?_, by rw [h7, h8]; exact I.hok, by rw [h6]; exact I.len⟩
  show _ ∧ _ ∧ p.1 ≠ Y.env.locals ∧ p.1 ∉ frs Y.outer ∧ _
  rw [h5, h3]
  exact hp p hm
theorem tryC_pass {X : Cx} {pn : List (Addr × Obj)} {G : St → XK} : PassG (CXE X.prog X.w) (tryC X pn G) G := fun pins σ H s e s' I h =>
  ⟨σ, H, s, I.like (Y := { X with pn := pn, xe := fun _ _ => False }) ⟨I.ok.mod, I.ok.kind, I.ok.glob, I.ok.blt, I.ok.above, I.ok.inj, I.ok.has, I.ok.cab, I.ok.hd, I.ok.frames, I.ok.stk, I.ok.exf, I.ok.bs, I.ok.bsz, I.ok.noex, I.ok.exfs, I.ok.funs, I.ok.frf⟩ rfl rfl rfl rfl rfl rfl rfl rfl
    (fun p hp => I.pin p (List.mem_append_left _ (show p ∈ pn by simpa using hp))), h⟩
/-- what is known of a caught exception at a -/
def excO (C a : Addr) : HO := .ext fun h => ∃ o, h.get? a = some o ∧ o.cls = .ref C ∧ ∃ vs, o.data = .fields vs
/-- the context of the handler's suite -/
def hndC (X : Cx) (pn : List (Addr × Obj)) (e : Addr) : Cx := { X with pn := pn, A := X.A.mark (some (.ref e)), calm := false, xe := fun _ _ => False }
/-- the reading: body, then (where it raises an exception of a class that c catches) the suite, the exception's name in the slot i, which is free behind it -/
def tTry (K : PySem.W.Frag) (c : Addr) (i : Nat) (tb : (St → XK) → TS) (ts : TS) : TS := fun D σ H =>
  tb (fun σ1 cls _ H1 => ∃ C, cls = .ref C ∧ PySem.W.exmOne K (.ref C) (.ref c) = some true ∧ ∀ a, H1 a = none →
    ts { nx := fun σ2 H2 => D.nx (σ2.set i none) H2, rt := D.rt, bk := fun σ2 H2 => D.bk (σ2.set i none) H2, ct := fun σ2 H2 => D.ct (σ2.set i none) H2 } (σ1.set i (some (.ref a))) (upd H1 a (excO C a))) D σ H
end L2

set_option Elab.async false
set_option linter.all false
set_option maxRecDepth 100000
set_option maxHeartbeats 4000000
namespace L2
open PySem PySem.Spec PyProof.Rows

/-! ## M13. try: .. except C as n: .. -/
section
variable {X : Cx} {pins : List (Addr × Obj)} {σ : St} {H : Hp} {s : Shared}
/-- the handler's name is gone -/
theorem gone_ok {M : Model} {A : Around} {E : Value → Shared → Prop} {Q : Unit → Shared → Prop} {i : Nat} {n : Str} {pos : Pos} (I : Inv X pins σ H s) (hN : X.N.Nodup) (hi : X.N[i]? = some n) (hl : X.env.scope.names.lookup n = some .local)
    (h : ∀ s', Inv X pins (σ.set i none) H s' → Q () s') : wpAny M A (do bindName X.env n .none; unbindBehindTheSuite X.env n pos) Q E s := by
  obtain ⟨m, hn, hv⟩ := id I.loc
  have hcls : (X.env.scope.kind == .class || (X.env.scope.kind == .module && X.env.locals != X.env.globals)) = false := by rw [I.ok.kind]; rfl
  refine wpAny_nameGoes_keeps hl hn hcls fun h' v hn' hs => ?_
  have old : ∀ b o, X.s₀.heap.get? b = some o → b ≠ X.env.locals := fun b o e => Nat.ne_of_lt (Nat.lt_of_lt_of_le (Heap.lt_size e) I.ok.above)
  have trk : HOk X.prog X.w H h' := fun b ob e => by
    refine (I.hok b ob e).stay (fun c w' hc q => (hs.2 c ?_).trans q) (fun _ q => q) fun _ _ q => q
    rintro rfl
    rcases hc with hc | hc
    · rw [← hc, I.free] at e; cases e
    · rw [I.free] at hc; cases hc
  refine h _ ⟨I.ok, I.os, I.bare, ⟨fun b o e nn hb hx => (hs.2 b (old b o e)).trans (I.base.keep b o e nn hb hx), fun b o e nn hb hx => ?_, I.base.free, fun b o e hx => ?_, I.base.tups, I.base.frzs, I.base.tbls⟩,
    ⟨_, hn', fun j y v' e1 e2 e3 => ?_⟩, fun y c e => ?_, I.free, I.freeC, fun p hp => ?_, trk, by simpa using I.len⟩
  · obtain ⟨sl, e1⟩ := I.base.slot b o e nn hb hx
    exact ⟨sl, (hs.2 b (old b o e)).trans e1⟩
  · obtain ⟨o', e1⟩ := I.base.there b o e hx
    exact ⟨o', (hs.2 b (old b o e)).trans e1⟩
  · by_cases hj : j = i
    · subst hj
      rw [List.getElem?_set] at e2
      simp at e2
    · rw [List.getElem?_set_ne (Ne.symm hj)] at e2
      obtain ⟨u', r', q⟩ := hv j y v' e1 e2 e3
      refine ⟨u', r', ?_⟩
      rcases q with ⟨k, e⟩ | ⟨k, c, e, z⟩
      · refine .inl ⟨k, ?_⟩
        have : y ≠ n := fun e => hj (nodup_ix hN e1 (e ▸ hi))
        simp [this, e]
      · exact .inr ⟨k, c, e, z.sameBut hs (I.cne y c e)⟩
  · obtain ⟨w2, z2⟩ := I.cell y c e
    exact ⟨w2, z2.sameBut hs (I.cne y c e)⟩
  · obtain ⟨e, nn, ne, nf, d⟩ := I.pin p hp
    exact ⟨(hs.2 p.1 ne).trans e, nn, ne, nf, d⟩
/-- an exception has landed here: it is tracked -/
theorem land_inv {s1 : Shared} {h' B : Heap} {H' : Hp} {e C : Addr} {a0 : Value} (I : Inv X pins σ H s) (os : s1.os = s.os) (bare : AllBare s1.gens) (un : Un (frs X.stack) [] H H' s.heap s1.heap) (hok : HOk X.prog X.w H' s1.heap)
    (f1 : B.StaysIn s1.heap) (fl : Heap.FlyingW B X.stack e (.ref C) a0 h') (up : s1.heap.UpToSlots h') (hT : ∀ b u, H' b = some u → ∃ o, B.get? b = some o) (hB : ∀ b o, s.heap.get? b = some o → b ∉ frs X.stack → ∃ o', B.get? b = some o') (he : s.heap.get? e = none) :
    Inv X pins σ (upd H' e (excO C e)) { s1 with heap := h' } := by
  have he' : H' e = none := by
    cases q : H' e with
    | none => rfl
    | some u =>
      obtain ⟨o, z⟩ := hT e u q
      rw [fl.2.1] at z; cases z
  have ne : ∀ b o, s.heap.get? b = some o → b ≠ e := fun b o q z => by rw [z, he] at q; cases q
  have neT : ∀ b u, H b = some u → b ≠ e := fun b u q => by
    obtain ⟨o, z⟩ := hok_there (I.hok b u q)
    exact ne b o z
  have slot : ∀ b o, s.heap.get? b = some o → b ∈ frs X.stack → ∃ sl, h'.get? b = some { o with slots := sl } := fun b o q hb => by
    obtain ⟨sl, q1⟩ := un.slot b o q (I.stkFree b hb) hb (by simp)
    obtain ⟨_, o2, ho2, hd⟩ := I.stack.mem hb
    rw [q] at ho2
    cases ho2
    obtain ⟨sl', z⟩ := up b _ q1 hd
    exact ⟨sl', z⟩
  obtain ⟨k1, k2, k3, oe, vs, T, oT, ts, hoe, ⟨hcls, h0⟩, hd, _⟩ := fl
  refine I.call' (s' := { s1 with heap := h' }) (ch := []) os ⟨fun b o q n hb _ => ?_, fun b o q n hb _ => slot b o q hb, fun b o q n _ => ?_, fun b o q _ => ?_, fun b xs q => ?_, fun b o u q => ?_, fun b ps q => ?_⟩ (fun b u q => ?_) bare fun b z => absurd z (by simp)
  · obtain ⟨o', z⟩ := hB b o q hb
    exact stay_by f1 k1 z (un.keep b o q n hb (by simp))
  · rw [upd_ne (ne b o q)]; exact un.free b o q n (by simp)
  · by_cases hb : b ∈ frs X.stack
    · obtain ⟨sl, z⟩ := slot b o q hb
      exact ⟨_, z⟩
    · obtain ⟨o', z⟩ := hB b o q hb
      exact ⟨o', k1 b o' z⟩
  · rw [upd_ne (neT b _ q)]; exact un.tups b xs q
  · rw [upd_ne (neT b _ q)]; exact un.frzs b o u q
  · rw [upd_ne (neT b _ q)]; exact un.tbls b ps q
  · by_cases hb : b = e
    · subst hb
      rw [upd_same] at q
      cases q
      exact ⟨⟨oe, hoe, hcls, vs, hd⟩, ⟨oe, hoe⟩, fun h1 h2 ⟨o, z, r⟩ st => ⟨o, st o z, r⟩⟩
    · rw [upd_ne hb] at q
      refine (hok b u q).stay (fun c v hc r => ?_) (fun c r => by rw [upd_ne (ne_of_none r he')]; exact r) fun c xs r => by rw [upd_ne (ne_of_none r he')]; exact r
      have ⟨o', z⟩ : ∃ o', B.get? c = some o' := by
        rcases hc with z | z
        · rw [z]; exact hT b u q
        · exact hT c _ z
      exact stay_by f1 k1 z r
end
/-- no exception comes -/
theorem passG_never {X : Cx} {P : Program} {w : World} : PassG (CXE P w) X (fun _ _ _ _ => False) := fun pins σ H s e s' I h => by
  obtain ⟨_, _, _, _, _, _, _, _, _, _, _, _, _, _, hE⟩ := h
  exact hE.elim
section
variable {X : Cx} {c : Addr} {i : Nat} {x n : Str} {np hpos pos : Pos} {body suite : List Stmt} {b0 : Stmt} {tb : (St → XK) → TS} {ts : TS}
theorem ps_try (hst : X.stack = X.env :: X.outer) (hfr : X.env.frame = some X.env.locals) (hg : Gl X x) (hm : X.mg x = some (.ref c)) (hN : X.N.Nodup) (hi : X.N[i]? = some n) (hn : X.env.scope.names.lookup n = some .local)
    (hb : ∀ pn G, PSs (tryC X pn G) body (tb G)) (hs : ∀ pn e, PSs (hndC X pn e) (b0 :: suite) ts) (hdb : (x == ("__debug__" : Str)) = false := by decide) :
    PS X (.Try body [.ExceptHandler (some (.Name x np)) (some n) (b0 :: suite) hpos] [] [] pos) (tTry X.K c i tb ts) := by
  intro pins s σ H D I h
  refine wpAny_Try_except ?_
  have okT : ∀ G, (tryC X (X.pn ++ pins) G).Ok := fun G => ⟨I.ok.mod, I.ok.kind, I.ok.glob, I.ok.blt, I.ok.above, I.ok.inj, I.ok.has, I.ok.cab, I.ok.hd, I.ok.frames, I.ok.stk, I.ok.exf, I.ok.bs, I.ok.bsz, I.ok.noex, I.ok.exfs, I.ok.funs, I.ok.frf⟩
  have okH : ∀ e, (hndC X (X.pn ++ pins) e).Ok := fun e => ⟨I.ok.mod, I.ok.kind, I.ok.glob, I.ok.blt, I.ok.above, I.ok.inj, I.ok.has, I.ok.cab, fun z => (Bool.noConfusion z), I.ok.frames, I.ok.stk, I.ok.exf, I.ok.bs, I.ok.bsz, I.ok.noex, I.ok.exfs, I.ok.funs, I.ok.frf⟩
  have I0 : ∀ G, Inv (tryC X (X.pn ++ pins) G) [] σ H s := fun G => I.like (Y := tryC X (X.pn ++ pins) G) (okT G) rfl rfl rfl rfl rfl rfl rfl rfl fun p hp => I.pin p (by simpa [tryC] using hp)
  refine wpAny_mono (hb (X.pn ++ pins) _ [] s σ H D (I0 _) h) (fun f s1 q => ?_) (fun ev s1 q => ?_)
  · cases f with
    | next =>
      obtain ⟨σ', H', J, q⟩ := q
      exact wpAny_execs_nil ⟨σ', H', J.like (Y := X) I.ok rfl rfl rfl rfl rfl rfl rfl rfl fun p hp => J.pin p (by simpa [tryC] using hp), q⟩
    | brk =>
      obtain ⟨σ', H', J, q⟩ := q
      exact ⟨σ', H', J.like (Y := X) I.ok rfl rfl rfl rfl rfl rfl rfl rfl fun p hp => J.pin p (by simpa [tryC] using hp), q⟩
    | cont =>
      obtain ⟨σ', H', J, q⟩ := q
      exact ⟨σ', H', J.like (Y := X) I.ok rfl rfl rfl rfl rfl rfl rfl rfl fun p hp => J.pin p (by simpa [tryC] using hp), q⟩
    | ret u =>
      obtain ⟨v, σ', H', J, r, q⟩ := q
      exact ⟨v, σ', H', J.like (Y := X) I.ok rfl rfl rfl rfl rfl rfl rfl rfl fun p hp => J.pin p (by simpa [tryC] using hp), r, q⟩
  · obtain ⟨σ1, H1, s0, J, e, C, a0, B, H', rfl, os, bare, un, hok, fl, hT, hB, he, C', hC, hx, hts⟩ := q
    cases hC
    have he' : H' e = none := by
      cases q : H' e with
      | none => rfl
      | some u =>
        obtain ⟨o, z⟩ := hT e u q
        rw [fl.2.1] at z; cases z
    have hfrm : X.A.frames = some (X.env :: X.outer) := by rw [← hst]; exact I.ok.frames
    have fl0 : Heap.FlyingW B (X.env :: X.outer) e (.ref C) a0 s1.heap := by rw [← hst]; exact fl
    have toH : ∀ {σ2 : St} {H2 : Hp} {s2 : Shared}, Inv { X with pn := X.pn ++ pins, xe := fun _ _ => False } [] σ2 H2 s2 → Inv (hndC X (X.pn ++ pins) e) [] σ2 H2 s2 := fun {σ2 H2 s2} L =>
      L.like (Y := hndC X (X.pn ++ pins) e) (okH e) rfl rfl rfl rfl rfl rfl rfl rfl fun p hp => L.pin p (by simpa [hndC] using hp)
    have toX : ∀ {σ2 : St} {H2 : Hp} {s2 : Shared}, Inv (hndC X (X.pn ++ pins) e) [] σ2 H2 s2 → Inv X pins σ2 H2 s2 := fun {σ2 H2 s2} L =>
      L.like (Y := X) I.ok rfl rfl rfl rfl rfl rfl rfl rfl fun p hp => L.pin p (by simpa [hndC] using hp)
    have land : ∀ h', Heap.FlyingW B (X.env :: X.outer) e (.ref C) a0 h' → s1.heap.UpToSlots h' → Inv (hndC X (X.pn ++ pins) e) [] σ1 (upd H' e (excO C e)) { s1 with heap := h' } := fun h' f u =>
      toH (land_inv J os bare un hok fl.1 (by show Heap.FlyingW B X.stack e (.ref C) a0 h'; rw [hst]; exact f) u hT hB he)
    refine wpAny_looks_onW hfrm hfr fl0 fun h4 held4 up4 => ?_
    refine wpAny_landsW held4 fun h5 fl5 up5 => ?_
    have K5 := land h5 fl5 (up4.trans up5)
    refine wpAny_handleBy_cons (codeAny_handlers_test (ld_glob (X := hndC X (X.pn ++ pins) e) K5 hg hm ?_ hdb)) (by intro q; cases q)
    have LT : PySem.W.Looks (model X.prog X.w) h5 (typeOf (.ref e)) (.ref C) := by
      obtain ⟨ob, hob, hcl⟩ := fl5.there
      exact hcl ▸ (PySem.W.Looks.ld hob).andThen .now
    refine (PySem.W.exm_one (K := X.K) K5.kIn LT hx).here ?_
    refine codeAny_handlers_suite_as ?_
    refine lands_againW fl5 fun h6 fl6 up6 => ?_
    have K6 := land h6 fl6 (up4.trans (up5.trans up6))
    refine store_ok (X := hndC X (X.pn ++ pins) e) K6 hN hi (.inl hn) (v := .ref e) rfl (fun s7 K7 => ?_) (.inr hn)
    refine wpAny_mono (hs (X.pn ++ pins) e [] s7 (σ1.set i (some (.ref e))) _ _ K7 (hts e he')) (fun f s8 q8 => ?_) (fun _ _ z => z.elim)
    cases f with
    | next =>
      obtain ⟨σ8, H8, K8, q8⟩ := q8
      exact gone_ok (X := hndC X (X.pn ++ pins) e) K8 hN hi hn fun s9 K9 => ⟨_, _, toX K9, q8⟩
    | brk =>
      obtain ⟨σ8, H8, K8, q8⟩ := q8
      exact gone_ok (X := hndC X (X.pn ++ pins) e) K8 hN hi hn fun s9 K9 => ⟨_, _, toX K9, q8⟩
    | cont =>
      obtain ⟨σ8, H8, K8, q8⟩ := q8
      exact gone_ok (X := hndC X (X.pn ++ pins) e) K8 hN hi hn fun s9 K9 => ⟨_, _, toX K9, q8⟩
    | ret u =>
      obtain ⟨v, σ8, H8, K8, r8, q8⟩ := q8
      exact gone_ok (X := hndC X (X.pn ++ pins) e) K8 hN hi hn fun s9 K9 => ⟨_, _, _, toX K9, r8, q8⟩
end
end L2

set_option Elab.async false
set_option linter.all false
set_option maxRecDepth 100000
set_option maxHeartbeats 4000000
namespace L2
open PySem PySem.Spec PyProof.Rows
/-! ## M11. == of lists and tuples -/
theorem eqAt_rel {A : Around} {s : Shared} {x : V} {u v : Value} (h1 : RelV x u) (h2 : RelV x v) (hf : ∀ z, x ≠ .flt z) (hb : ∀ z, x ≠ .byt z) : SeqAt.EqAt A s u v true := by
  cases x with
  | non => cases h1; cases h2; exact SeqAt.EqAt.same _
  | bl b => cases h1; cases h2; exact SeqAt.EqAt.same _
  | int i =>
    obtain ⟨t, rfl⟩ := h1
    obtain ⟨t', rfl⟩ := h2
    have := SeqAt.EqAt.int_int (A := A) (s := s) i t i t'
    rwa [beq_self_eq_true] at this
  | str z =>
    obtain ⟨t, rfl⟩ := h1
    obtain ⟨t', rfl⟩ := h2
    have := SeqAt.EqAt.str_str (A := A) (s := s) z t z t'
    rwa [beq_self_eq_true] at this
  | byt z => exact absurd rfl (hb z)
  | flt z => exact absurd rfl (hf z)
  | ref a => cases h1; cases h2; exact SeqAt.EqAt.same _
  | ty n => cases h1; cases h2; exact SeqAt.EqAt.same _
/-- no float, no bytes -/
def plainV : V → Bool
  | .flt _ => false
  | .byt _ => false
  | _ => true
theorem vals_at {xs : List V} {us : List Value} (r : Vals xs us) {j : Nat} (h1 : j < xs.length) (h2 : j < us.length) : RelV xs[j] us[j] := by
  obtain ⟨u, e, q⟩ := r.get (i := j) (x := xs[j]) (by simp [h1])
  have : us[j]? = some us[j] := by simp [h2]
  rw [this] at e
  cases e
  exact q
section
variable {X : Cx} {K : PySem.W.Frag}
/-- two lists of the very same values -/
theorem op_eqSame (hK : X.K = K) (hu : X.A.units < cLine) : OpR X (compareOp .Eq) (fun x y H Q => ∃ a b xs, x = .ref a ∧ y = .ref b ∧ SqL K H a xs ∧ SqL K H b xs ∧ xs.all plainV = true ∧ Q (.bl true) H) := by
  subst hK
  intro pins s σ H x y v u Q I rx ry h
  obtain ⟨a, b, xs, rfl, rfl, ha, hb, hp, q⟩ := h
  cases rx
  cases ry
  obtain ⟨its, r1, p1, _⟩ := I.list ha
  obtain ⟨jts, r2, p2, _⟩ := I.list hb
  have l1 := r1.length
  have l2 := r2.length
  refine SeqAt.eq_listAt (e := fun _ => true) p1.isList p2.isList (by simp; omega) hu (fun j h1 h2 => ?_) ?_
  · have g1 : j < its.length := by simpa using h1
    have g2 : j < jts.length := by simpa using h2
    have g : j < xs.length := by omega
    have pl : plainV xs[j] = true := List.all_eq_true.mp hp _ (List.getElem_mem g)
    have := eqAt_rel (A := X.A.in1) (s := s) (vals_at r1 g g1) (vals_at r2 g g2) (fun z e => by rw [e] at pl; cases pl) (fun z e => by rw [e] at pl; cases pl)
    simpa using this
  · have e : ((List.range its.toArray.size).all fun _ => true) = true := by simp
    rw [e]
    exact ⟨.bl true, H, I, rfl, q⟩
/-- two tuples of ints -/
theorem op_eqTI (hK : X.K = K) (hu : X.A.units < cLine) : OpR X (compareOp .Eq) (fun x y H Q => ∃ (a b : Addr) (ns ms : List Int), x = .ref a ∧ y = .ref b ∧ SqT K H a (ns.map V.int) ∧ SqT K H b (ms.map V.int) ∧ Q (.bl (decide (ns = ms))) H) := by
  subst hK
  intro pins s σ H x y v u Q I rx ry h
  obtain ⟨a, b, ns, ms, rfl, rfl, ha, hb, q⟩ := h
  cases rx
  cases ry
  obtain ⟨its, r1, p1, _⟩ := I.tuple ha
  obtain ⟨jts, r2, p2, _⟩ := I.tuple hb
  have l1 := r1.length
  have l2 := r2.length
  rw [List.length_map] at l1 l2
  refine SeqAt.eq_tupleAt (e := fun j => decide (ns[j]? = ms[j]?)) p1 p2 hu (fun j h1 h2 => ?_) ?_
  · have g1 : j < its.length := by simpa using h1
    have g2 : j < jts.length := by simpa using h2
    have n1 : j < ns.length := by omega
    have n2 : j < ms.length := by omega
    have z1 := vals_at r1 (by simpa using n1) g1
    have z2 := vals_at r2 (by simpa using n2) g2
    rw [List.getElem_map] at z1 z2
    obtain ⟨t, e1⟩ := z1
    obtain ⟨t', e2⟩ := z2
    have := SeqAt.EqAt.int_int (A := X.A.in1) (s := s) ns[j] t ms[j] t'
    have e3 : decide (ns[j]? = ms[j]?) = (ns[j] == ms[j]) := by
      rw [Bool.eq_iff_iff]; simp [n1, n2]
    simp only [List.getElem_toArray]
    rw [e1, e2, e3]
    exact this
  · have e : ((List.range (min its.toArray.size jts.toArray.size)).all (fun j => decide (ns[j]? = ms[j]?)) && its.toArray.size == jts.toArray.size) = decide (ns = ms) := by
      rw [Bool.eq_iff_iff, Bool.and_eq_true, List.all_eq_true, decide_eq_true_iff]
      constructor
      · rintro ⟨h1, h2⟩
        have hl : ns.length = ms.length := by simp at h2; omega
        refine List.ext_getElem? fun j => ?_
        by_cases hj : j < ns.length
        · exact of_decide_eq_true (h1 j (List.mem_range.mpr (by simp; omega)))
        · rw [List.getElem?_eq_none (by omega), List.getElem?_eq_none (by omega)]
      · rintro rfl
        exact ⟨fun j _ => decide_eq_true rfl, by simp; omega⟩
    rw [e]
    exact ⟨.bl (decide (ns = ms)), H, I, rfl, q⟩
/-- two lists of ints -/
theorem op_eqLI (hK : X.K = K) (hu : X.A.units < cLine) : OpR X (compareOp .Eq) (fun x y H Q => ∃ (a b : Addr) (ns ms : List Int), x = .ref a ∧ y = .ref b ∧ SqL K H a (ns.map V.int) ∧ SqL K H b (ms.map V.int) ∧ Q (.bl (decide (ns = ms))) H) := by
  subst hK
  intro pins s σ H x y v u Q I rx ry h
  obtain ⟨a, b, ns, ms, rfl, rfl, ha, hb, q⟩ := h
  cases rx
  cases ry
  obtain ⟨its, r1, p1, _⟩ := I.list ha
  obtain ⟨jts, r2, p2, _⟩ := I.list hb
  have l1 := r1.length
  have l2 := r2.length
  rw [List.length_map] at l1 l2
  by_cases hl : its.length = jts.length
  · refine SeqAt.eq_listAt (e := fun j => decide (ns[j]? = ms[j]?)) p1.isList p2.isList (by simpa using hl) hu (fun j h1 h2 => ?_) ?_
    · have g1 : j < its.length := by simpa using h1
      have g2 : j < jts.length := by simpa using h2
      have n1 : j < ns.length := by omega
      have n2 : j < ms.length := by omega
      have z1 := vals_at r1 (by simpa using n1) g1
      have z2 := vals_at r2 (by simpa using n2) g2
      rw [List.getElem_map] at z1 z2
      obtain ⟨t, e1⟩ := z1
      obtain ⟨t', e2⟩ := z2
      have := SeqAt.EqAt.int_int (A := X.A.in1) (s := s) ns[j] t ms[j] t'
      have e3 : decide (ns[j]? = ms[j]?) = (ns[j] == ms[j]) := by
        rw [Bool.eq_iff_iff]; simp [n1, n2]
      simp only [List.getElem_toArray]
      rw [e1, e2, e3]
      exact this
    · have e : ((List.range its.toArray.size).all (fun j => decide (ns[j]? = ms[j]?))) = decide (ns = ms) := by
        rw [Bool.eq_iff_iff, List.all_eq_true, decide_eq_true_iff]
        constructor
        · intro h1
          refine List.ext_getElem? fun j => ?_
          by_cases hj : j < ns.length
          · exact of_decide_eq_true (h1 j (List.mem_range.mpr (by simp; omega)))
          · rw [List.getElem?_eq_none (by omega), List.getElem?_eq_none (by omega)]
        · rintro rfl
          exact fun j _ => decide_eq_true rfl
      rw [e]
      exact ⟨.bl (decide (ns = ms)), H, I, rfl, q⟩
  · refine SeqAt.eq_list_lengthsAt p1.isList p2.isList (by simpa using hl) hu ?_
    have e : decide (ns = ms) = false := decide_eq_false fun z => hl (by rw [← l1, ← l2, z])
    rw [e] at q
    exact ⟨.bl false, H, I, rfl, q⟩
end
end L2

set_option Elab.async false
set_option linter.all false
set_option maxRecDepth 100000
set_option maxHeartbeats 4000000
namespace L2
open PySem PySem.Spec PyProof.Rows
/-! ## M12. the text's defs as the top leaves them -/
structure DefAt (K : PySem.W.Frag) (x : Str) (st : Stmt) : Prop where
  ex : ∃ (f : Addr) (oc : Value) (od : Option Addr) (osl : Array (Option Value)) (kV doc pm : Value) (an : Option Addr) (cdv ct : Value), PySem.W.nsIn K mainGlobals x = some (some (.ref f)) ∧
    K.lookup f = some ⟨oc, od, .func (PySem.W.fnOf x x (defArgs st) (defBody st) (defScope st) .none kV doc pm an cdv ct), osl⟩ ∧ PySem.W.codeIn K cdv x = true ∧ PySem.W.keepIn K (.ref f) = true
theorem defAt {K : PySem.W.Frag} {x : Str} {st : Stmt} {f : Addr} {oc : Value} {od : Option Addr} {osl : Array (Option Value)} {kV doc pm : Value} {an : Option Addr} {cdv ct : Value} (a : PySem.W.nsIn K mainGlobals x = some (some (.ref f)))
    (l : K.lookup f = some ⟨oc, od, .func (PySem.W.fnOf x x (defArgs st) (defBody st) (defScope st) .none kV doc pm an cdv ct), osl⟩) (c : PySem.W.codeIn K cdv x = true) (k : PySem.W.keepIn K (.ref f) = true) : DefAt K x st := ⟨⟨f, oc, od, osl, kV, doc, pm, an, cdv, ct, a, l, c, k⟩⟩
/-- how the arguments of the def bind: each parameter its own -/
def BindAt (x : Str) (st : Stmt) (ps : List Str) : Prop := ∀ (kV doc pm : Value) (an : Option Addr) (cdv ct : Value) (us : List Value), us.length = ps.length → bindArgs (PySem.W.fnOf x x (defArgs st) (defBody st) (defScope st) .none kV doc pm an cdv ct) ⟨us, []⟩ = pure (ps.zip us)
section
variable {P : Program} {w : World} {K : PySem.W.Frag} {mg : Str → Option Value} {base h : Heap} {x : Str} {st : Stmt} {ps : List Str} {k : Nat} {sp : Sp}
theorem DefAt.cal (D : DefAt K x st) (X : K.In h) (G : h.Ns mainGlobals mg) (hb : BindAt x st ps) (mk : ∀ f fd, Fun K x x st f fd → FnOk P w K mg base CX0 k f fd ps sp) : Cal P w K mg base k x ps sp := by
  obtain ⟨f, oc, od, osl, kV, doc, pm, an, cdv, ct, a, l, c, kk⟩ := D.ex
  have F := fun_mk (st := st) l c kk
  exact ⟨⟨f, _, mk f _ F, PySem.W.mg_of X G a, kk, F.binds hb⟩⟩
theorem DefAt.law {fa : Addr} {y : Str} (D : DefAt K x st) (X : K.In h) (G : h.Ns mainGlobals mg) (hfa : mg x = some (.ref fa)) (hb : BindAt x st [y]) (mk : ∀ f fd (base : Heap), Fun K x x st f fd → K.In base → base.Ns mainGlobals mg → FnOk P w K mg base CX0 k f fd [y] sp) :
    ∃ fd : FuncData, (∀ (s : Shared) (u : Value), BindsTo s fd ⟨[u], []⟩ [(y, u)]) ∧ ∀ base : Heap, K.In base → base.Ns mainGlobals mg → FnOk P w K mg base CX0 k fa fd [y] sp := by
  obtain ⟨f, oc, od, osl, kV, doc, pm, an, cdv, ct, a, l, c, kk⟩ := D.ex
  have F := fun_mk (st := st) l c kk
  have e := hfa.symm.trans (PySem.W.mg_of X G a)
  cases e
  exact ⟨_, fun s u => .of_eq (hb kV doc pm an cdv ct [u] rfl), fun base kb nb => mk fa _ base F kb nb⟩
theorem txt_nil : Txt [] mg := ⟨fun _ h => absurd h (by simp)⟩
theorem txt_cons {y : Str} {BN : List Str} (X : K.In h) (G : h.Ns mainGlobals mg) (a : PySem.W.nsIn K mainGlobals y = some none) (r : Txt BN mg) : Txt (y :: BN) mg := ⟨fun z hz => by
  rcases List.mem_cons.mp hz with e | e
  · rw [e]; exact PySem.W.mg_none_of X G a
  · exact r.nb z e⟩
end
/-- what law(script) promises: for a list of at most 63 ints the answer is True -/
def spLaw (K : PySem.W.Frag) : Sp := fun vs H Q _ => ∃ (a : Addr) (ns : List Int), vs = [.ref a] ∧ SqL K H a (ns.map V.int) ∧ ns.length ≤ 63 ∧ ∀ H', Q (.bl true) H'
theorem walkLaw {l : PySem.W.OpenLaw} {q : Program} {loose : List Str} {XP : (Str → Option Value) → Heap → Prop} {YP : World → Heap → Prop} {d : DefRec} {K : Params → PySem.W.Frag} {k : Nat} {x : Str} (hn : l.most = some 63) (hdf : d.params.defaults = []) (hk : Room k callerA)
    (hY : ∀ (w : World) (h : Heap), YP w h → (K w.params).In h)
    (F : ∀ (w : World) (mg : Str → Option Value) (fa : Addr) (h : Heap), (K w.params).In h → h.Ns mainGlobals mg → mg d.name = some (.ref fa) →
      ∃ fd : FuncData, (∀ (s : Shared) (u : Value), BindsTo s fd ⟨[u], []⟩ [(x, u)]) ∧ ∀ base : Heap, (K w.params).In base → base.Ns mainGlobals mg → FnOk l.prog w (K w.params) mg base CX0 k fa fd [x] (spLaw (K w.params))) :
    PySem.W.WalkO q loose XP YP l.row.toRowW d [] (fun f vs => PySem.call f vs) :=
  L2.walk_of (n := 63) (k := k) (x := x) (CX := fun _ => CX0) (sp := fun w => spLaw (K w.params)) hn (by decide) hdf hk hY F (fun _ _ a ns hl _ hS => ⟨a, ns, rfl, hS, hl, fun _ => rfl⟩) fun _ _ _ _ _ z => z
/-- a slice of ints -/
def cutI (ns : List Int) (lo hi : Option Int) : List Int := (ns.drop (HT.sIx ns.length 0 lo)).take (HT.sIx ns.length ns.length hi - HT.sIx ns.length 0 lo)
theorem cut_map (ns : List Int) (lo hi : Option Int) : cutV (ns.map V.int) lo hi = (cutI ns lo hi).map V.int := by
  unfold cutV cutI
  rw [List.length_map, List.map_take, List.map_drop]
theorem cutI_length (ns : List Int) (lo hi : Option Int) : (cutI ns lo hi).length ≤ ns.length := by
  unfold cutI
  rw [List.length_take, List.length_drop]
  omega
end L2

/-! ## Mathematics: the greatest common factor, fractions -/
set_option linter.all false
namespace Mw
theorem iabs (i : Int) : (if i < 0 then -i else i) = (i.natAbs : Int) := by
  split <;> omega
/-- one turn of Euclid -/
theorem gcd_turn {a b : Int} (ha : 0 ≤ a) (hb : 0 ≤ b) : Int.gcd b (a % b) = Int.gcd a b := by
  have e1 : ((a.natAbs : Nat) : Int) = a := Int.natAbs_of_nonneg ha
  have e2 : ((b.natAbs : Nat) : Int) = b := Int.natAbs_of_nonneg hb
  rw [← e1, ← e2, ← Int.natCast_emod, Int.gcd_natCast_natCast, Int.gcd_natCast_natCast, Nat.gcd_comm a.natAbs, Nat.gcd_rec b.natAbs a.natAbs]
  exact Nat.gcd_comm _ _
theorem gcd_end {a : Int} (ha : 0 ≤ a) : (Int.gcd a 0 : Int) = a := by rw [Int.gcd_zero_right]; exact Int.natAbs_of_nonneg ha
theorem gcd_abs (a b : Int) : Int.gcd (a.natAbs : Int) (b.natAbs : Int) = Int.gcd a b := by
  rw [Int.gcd_natCast_natCast]; rfl
/-- the factor with the bottom's sign -/
def fac (t b : Int) : Int := if b < 0 then -(Int.gcd t b : Int) else (Int.gcd t b : Int)
theorem fac_ne {t b : Int} (h : b ≠ 0) : fac t b ≠ 0 := by
  have := Int.gcd_pos_of_ne_zero_right t h
  unfold fac; split <;> omega
theorem fac_dvd_left (t b : Int) : fac t b ∣ t := by
  unfold fac; split
  · exact Int.neg_dvd.mpr (Int.gcd_dvd_left t b)
  · exact Int.gcd_dvd_left t b
theorem fac_dvd_right (t b : Int) : fac t b ∣ b := by
  unfold fac; split
  · exact Int.neg_dvd.mpr (Int.gcd_dvd_right t b)
  · exact Int.gcd_dvd_right t b
theorem fac_abs (t b : Int) : (fac t b).natAbs = Int.gcd t b := by
  unfold fac; split <;> omega
/-- the fraction of top and bottom -/
def ptop (t b : Int) : Int := t / fac t b
def pbot (t b : Int) : Int := b / fac t b
theorem ptop_mul (t b : Int) : ptop t b * fac t b = t := Int.ediv_mul_cancel (fac_dvd_left t b)
theorem pbot_mul (t b : Int) : pbot t b * fac t b = b := Int.ediv_mul_cancel (fac_dvd_right t b)
theorem pbot_pos {t b : Int} (h : b ≠ 0) : 0 < pbot t b := by
  have e := pbot_mul t b
  have g := Int.gcd_pos_of_ne_zero_right t h
  rcases Int.lt_or_lt_of_ne h with hb | hb
  · have f : fac t b < 0 := by unfold fac; rw [if_pos hb]; omega
    rcases Int.lt_trichotomy (pbot t b) 0 with q | q | q
    · have := Int.mul_pos_of_neg_of_neg q f; omega
    · rw [q] at e; omega
    · exact q
  · have f : 0 < fac t b := by unfold fac; rw [if_neg (by omega)]; omega
    rcases Int.lt_trichotomy (pbot t b) 0 with q | q | q
    · have := Int.mul_neg_of_neg_of_pos q f; omega
    · rw [q] at e; omega
    · exact q
theorem part_gcd {t b : Int} (h : b ≠ 0) : Int.gcd (ptop t b) (pbot t b) = 1 := by
  unfold ptop pbot
  rw [Int.gcd_ediv (fac_dvd_left t b) (fac_dvd_right t b), fac_abs]
  exact Nat.div_self (Int.gcd_pos_of_ne_zero_right t h)
theorem part_cross {t b : Int} : ptop t b * b = t * pbot t b := by
  have e1 := ptop_mul t b
  have e2 := pbot_mul t b
  calc ptop t b * b = ptop t b * (pbot t b * fac t b) := by rw [e2]
    _ = ptop t b * fac t b * pbot t b := by rw [Int.mul_comm (pbot t b), Int.mul_assoc]
    _ = t * pbot t b := by rw [e1]
theorem ptop_fdiv (t b : Int) : t.fdiv (fac t b) = ptop t b := Int.fdiv_eq_ediv_of_dvd (fac_dvd_left t b)
theorem pbot_fdiv (t b : Int) : b.fdiv (fac t b) = pbot t b := Int.fdiv_eq_ediv_of_dvd (fac_dvd_right t b)
theorem ptop_le (t b : Int) : (ptop t b).natAbs ≤ t.natAbs := by
  unfold ptop; exact Int.natAbs_ediv_le_natAbs _ _
theorem pbot_le (t b : Int) : (pbot t b).natAbs ≤ b.natAbs := by
  unfold pbot; exact Int.natAbs_ediv_le_natAbs _ _
theorem gcd_le_right {t b : Int} (h : b ≠ 0) : Int.gcd t b ≤ b.natAbs := by
  have := Int.gcd_dvd_right t b
  exact Nat.le_of_dvd (by omega) (by have q := Int.natAbs_dvd_natAbs.mpr this; simpa using q)
/-- _law_mixed -/
def mixed (c k : Int) : Int := ((c % 10 ^ 30 + 7919 * k * k + 13 * k + 5) * 48271 % 2147483647 * 69621 + 5 * k + 1) % 2147483629
theorem mixed_lo (c k : Int) : 0 ≤ mixed c k := Int.emod_nonneg _ (by decide)
theorem mixed_hi (c k : Int) : mixed c k < 2147483629 := Int.emod_lt_of_pos _ (by decide)
end Mw

set_option linter.all false
namespace Mw
/-- least_multiple -/
def lcmF (bs : List Int) : Int := bs.foldl (fun m n => m * (n / (Int.gcd m n : Int))) 1
/-- greatest_divisor -/
def gcdF (ws : List Int) : Int := ws.foldl (fun d n => (Int.gcd d n : Int)) 0
theorem lcm_step_pos {m n : Int} (hm : 0 < m) (hn : 0 < n) : 0 < m * (n / (Int.gcd m n : Int)) := by
  have g : (Int.gcd m n : Int) ∣ n := Int.gcd_dvd_right m n
  have gp : 0 < (Int.gcd m n : Int) := by have := Int.gcd_pos_of_ne_zero_right m (show n ≠ 0 by omega); omega
  exact Int.mul_pos hm (Int.ediv_pos_of_pos_of_dvd hn (Int.le_of_lt gp) g)
theorem lcm_step_dvd_left (m n : Int) : m ∣ m * (n / (Int.gcd m n : Int)) := Int.dvd_mul_right _ _
theorem lcm_step_dvd_right (m n : Int) : n ∣ m * (n / (Int.gcd m n : Int)) := by
  have g1 : (Int.gcd m n : Int) ∣ m := Int.gcd_dvd_left m n
  have g2 : (Int.gcd m n : Int) ∣ n := Int.gcd_dvd_right m n
  have e2 := Int.mul_ediv_cancel' g2
  obtain ⟨q, hq⟩ := g1
  refine ⟨q, ?_⟩
  calc m * (n / (Int.gcd m n : Int)) = ((Int.gcd m n : Int) * q) * (n / (Int.gcd m n : Int)) := by rw [← hq]
    _ = ((Int.gcd m n : Int) * (n / (Int.gcd m n : Int))) * q := by rw [Int.mul_assoc, Int.mul_comm q, ← Int.mul_assoc]
    _ = n * q := by rw [e2]
theorem lcm_step_le {m n : Int} (hm : 0 < m) (hn : 0 < n) : m * (n / (Int.gcd m n : Int)) ≤ m * n := by
  refine Int.mul_le_mul_of_nonneg_left ?_ (Int.le_of_lt hm)
  exact Int.ediv_le_self _ (Int.le_of_lt hn)
theorem lcmG_pos : ∀ (bs : List Int) (m : Int), 0 < m → (∀ b ∈ bs, 0 < b) → 0 < bs.foldl (fun m n => m * (n / (Int.gcd m n : Int))) m
  | [], m, h, _ => h
  | b :: r, m, h, k => lcmG_pos r _ (lcm_step_pos h (k b List.mem_cons_self)) fun x hx => k x (List.mem_cons_of_mem _ hx)
theorem lcmG_dvd : ∀ (bs : List Int) (m : Int), (m ∣ bs.foldl (fun m n => m * (n / (Int.gcd m n : Int))) m) ∧ ∀ b ∈ bs, b ∣ bs.foldl (fun m n => m * (n / (Int.gcd m n : Int))) m
  | [], m => ⟨Int.dvd_refl _, fun _ h => absurd h (by simp)⟩
  | b :: r, m => by
    obtain ⟨h1, h2⟩ := lcmG_dvd r (m * (b / (Int.gcd m b : Int)))
    refine ⟨Int.dvd_trans (lcm_step_dvd_left m b) h1, fun x hx => ?_⟩
    rcases List.mem_cons.mp hx with e | e
    · rw [e]; exact Int.dvd_trans (lcm_step_dvd_right m b) h1
    · exact h2 x e
theorem lcmG_le {c : Nat} : ∀ (bs : List Int) (m : Int), 0 < m → (∀ b ∈ bs, 0 < b ∧ b ≤ c) → bs.foldl (fun m n => m * (n / (Int.gcd m n : Int))) m ≤ m * (c : Int) ^ bs.length
  | [], m, h, _ => by simp
  | b :: r, m, h, k => by
    have hb := k b List.mem_cons_self
    have h1 := lcmG_le r _ (lcm_step_pos h hb.1) fun x hx => k x (List.mem_cons_of_mem _ hx)
    have h2 := lcm_step_le h hb.1
    have hc : (0 : Int) ≤ (c : Int) ^ r.length := Int.pow_nonneg (by omega)
    refine Int.le_trans h1 ?_
    have h3 : m * (b / (Int.gcd m b : Int)) ≤ m * c := Int.le_trans h2 (Int.mul_le_mul_of_nonneg_left hb.2 (Int.le_of_lt h))
    have h4 := Int.mul_le_mul_of_nonneg_right h3 hc
    rw [List.length_cons, Int.pow_succ, Int.mul_comm ((c : Int) ^ r.length), ← Int.mul_assoc]
    exact h4
theorem lcmF_pos {bs : List Int} (h : ∀ b ∈ bs, 0 < b) : 0 < lcmF bs := lcmG_pos bs 1 (by decide) h
theorem lcmF_dvd {bs : List Int} {b : Int} (h : b ∈ bs) : b ∣ lcmF bs := (lcmG_dvd bs 1).2 b h
theorem lcmF_snoc (bs : List Int) (b : Int) : lcmF (bs ++ [b]) = lcmF bs * (b / (Int.gcd (lcmF bs) b : Int)) := by
  unfold lcmF; rw [List.foldl_append]; rfl
theorem gcdF_snoc (bs : List Int) (b : Int) : gcdF (bs ++ [b]) = (Int.gcd (gcdF bs) b : Int) := by
  unfold gcdF; rw [List.foldl_append]; rfl
theorem gcdG_nonneg : ∀ (ws : List Int) (d : Int), 0 ≤ d → 0 ≤ ws.foldl (fun d n => (Int.gcd d n : Int)) d
  | [], d, h => h
  | w :: r, d, _ => gcdG_nonneg r _ (Int.natCast_nonneg _)
theorem gcdF_nonneg (ws : List Int) : 0 ≤ gcdF ws := gcdG_nonneg ws 0 (by decide)
theorem gcdG_dvd : ∀ (ws : List Int) (d : Int), (ws.foldl (fun d n => (Int.gcd d n : Int)) d ∣ d) ∧ ∀ w ∈ ws, ws.foldl (fun d n => (Int.gcd d n : Int)) d ∣ w
  | [], d => ⟨Int.dvd_refl _, fun _ h => absurd h (by simp)⟩
  | w :: r, d => by
    obtain ⟨h1, h2⟩ := gcdG_dvd r (Int.gcd d w : Int)
    refine ⟨Int.dvd_trans h1 (Int.gcd_dvd_left d w), fun x hx => ?_⟩
    rcases List.mem_cons.mp hx with e | e
    · rw [e]; exact Int.dvd_trans h1 (Int.gcd_dvd_right d w)
    · exact h2 x e
theorem gcdF_dvd {ws : List Int} {w : Int} (h : w ∈ ws) : gcdF ws ∣ w := (gcdG_dvd ws 0).2 w h
theorem gcdG_mul {g : Int} (hg : 0 ≤ g) : ∀ (ws : List Int) (d : Int), (ws.map (· * g)).foldl (fun d n => (Int.gcd d n : Int)) (d * g) = ws.foldl (fun d n => (Int.gcd d n : Int)) d * g
  | [], d => rfl
  | w :: r, d => by
    rw [List.map_cons, List.foldl_cons, List.foldl_cons, Int.gcd_mul_right]
    have e : ((Int.gcd d w * g.natAbs : Nat) : Int) = (Int.gcd d w : Int) * g := by
      rw [Int.natCast_mul, Int.natAbs_of_nonneg hg]
    rw [e]
    exact gcdG_mul hg r _
/-- what made_whole's last row tells -/
theorem gcdF_div {ws : List Int} (h : gcdF ws ≠ 0) : gcdF (ws.map (· / gcdF ws)) = 1 := by
  have hn := gcdF_nonneg ws
  have e : ws = (ws.map (· / gcdF ws)).map (· * gcdF ws) := by
    rw [List.map_map]
    conv => lhs; rw [← List.map_id ws]
    refine List.map_congr_left fun w hw => ?_
    show w = w / gcdF ws * gcdF ws
    rw [Int.ediv_mul_cancel (gcdF_dvd hw)]
  have q := gcdG_mul hn (ws.map (· / gcdF ws)) 0
  rw [← e, Int.zero_mul] at q
  have q' : gcdF ws = gcdF (ws.map (· / gcdF ws)) * gcdF ws := q
  have : (gcdF (ws.map (· / gcdF ws)) - 1) * gcdF ws = 0 := by rw [Int.sub_mul, ← q', Int.one_mul, Int.sub_self]
  rcases Int.mul_eq_zero.mp this with z | z
  · omega
  · exact absurd z h
theorem gcdF_zero {ws : List Int} (h : gcdF ws = 0) : ∀ w ∈ ws, w = 0 := fun w hw => by
  have := gcdF_dvd hw
  rw [h] at this
  exact Int.zero_dvd.mp this
/-- made_whole, over tops and bottoms -/
def wholes (fs : List (Int × Int)) : List Int := fs.map fun f => f.1 * (lcmF (fs.map (·.2)) / f.2)
def whole (fs : List (Int × Int)) : List Int := if gcdF (wholes fs) = 0 then wholes fs else (wholes fs).map (· / gcdF (wholes fs))
theorem whole_length (fs : List (Int × Int)) : (whole fs).length = fs.length := by
  unfold whole wholes; split <;> simp
/-- each number, by its fraction: n * g * b = t * l -/
theorem whole_get {fs : List (Int × Int)} (hb : ∀ f ∈ fs, 0 < f.2) : ∃ g l : Int, 0 < g ∧ 0 < l ∧ ∀ (i : Nat) (f : Int × Int) (n : Int), fs[i]? = some f → (whole fs)[i]? = some n → n * g * f.2 = f.1 * l := by
  have hl : 0 < lcmF (fs.map (·.2)) := lcmF_pos fun b hm => by
    obtain ⟨f, hf, rfl⟩ := List.mem_map.mp hm
    exact hb f hf
  have key : ∀ f ∈ fs, f.1 * (lcmF (fs.map (·.2)) / f.2) * f.2 = f.1 * lcmF (fs.map (·.2)) := fun f hf => by
    rw [Int.mul_assoc, Int.ediv_mul_cancel (lcmF_dvd (List.mem_map.mpr ⟨f, hf, rfl⟩))]
  by_cases h : gcdF (wholes fs) = 0
  · refine ⟨1, _, by decide, hl, fun i f n h1 h2 => ?_⟩
    unfold whole at h2
    rw [if_pos h] at h2
    unfold wholes at h2
    rw [List.getElem?_map, h1] at h2
    have e := Option.some.inj h2
    rw [← e, Int.mul_one]
    exact key f (List.mem_of_getElem? h1)
  · have hg : 0 < gcdF (wholes fs) := by have := gcdF_nonneg (wholes fs); omega
    refine ⟨gcdF (wholes fs), _, hg, hl, fun i f n h1 h2 => ?_⟩
    unfold whole at h2
    rw [if_neg h, List.getElem?_map] at h2
    have hw : (wholes fs)[i]? = some (f.1 * (lcmF (fs.map (·.2)) / f.2)) := by
      unfold wholes; rw [List.getElem?_map, h1]; rfl
    rw [hw] at h2
    have e := Option.some.inj h2
    rw [← e, Int.ediv_mul_cancel (gcdF_dvd (List.mem_of_getElem? hw))]
    exact key f (List.mem_of_getElem? h1)
theorem sign_of {n g b t l : Int} (hg : 0 < g) (hb : 0 < b) (hl : 0 < l) (e : n * g * b = t * l) : (0 < n ↔ 0 < t) ∧ (n = 0 ↔ t = 0) := by
  have gb : 0 < g * b := Int.mul_pos hg hb
  rw [Int.mul_assoc] at e
  have pn : ∀ {x y : Int}, 0 < y → (0 < x * y ↔ 0 < x) := fun {x y} hy => ⟨fun h => by
    rcases Int.lt_trichotomy x 0 with q | q | q
    · have := Int.mul_neg_of_neg_of_pos q hy; omega
    · rw [q] at h; omega
    · exact q, fun h => Int.mul_pos h hy⟩
  have zn : ∀ {x y : Int}, 0 < y → (x * y = 0 ↔ x = 0) := fun {x y} hy => ⟨fun h => (Int.mul_eq_zero.mp h).resolve_right (by omega), fun h => by rw [h, Int.zero_mul]⟩
  exact ⟨by rw [← pn gb, e, pn hl], by rw [← zn gb, e, zn hl]⟩
theorem cross_of {n m g b c t u l : Int} (hg : 0 < g) (e1 : n * g * b = t * l) (e2 : m * g * c = u * l) : n * u * b = m * t * c := by
  have h : (n * u * b - m * t * c) * g = 0 := by
    have a1 : n * u * b * g = (n * g * b) * u := by simp only [Int.mul_assoc, Int.mul_comm, Int.mul_left_comm]
    have a2 : m * t * c * g = (m * g * c) * t := by simp only [Int.mul_assoc, Int.mul_comm, Int.mul_left_comm]
    rw [Int.sub_mul, a1, a2, e1, e2]
    have a3 : t * l * u = u * l * t := by simp only [Int.mul_assoc, Int.mul_comm, Int.mul_left_comm]
    rw [a3, Int.sub_self]
  have := (Int.mul_eq_zero.mp h).resolve_right (by omega)
  omega
theorem whole_gcd (fs : List (Int × Int)) : gcdF (whole fs) < 2 := by
  unfold whole
  by_cases h : gcdF (wholes fs) = 0
  · rw [if_pos h, h]; decide
  · rw [if_neg h, gcdF_div h]; decide
end Mw

set_option Elab.async false
set_option linter.all false
set_option maxRecDepth 100000
set_option maxHeartbeats 4000000
namespace L2
theorem iteN {c A B : Prop} [Decidable c] (hc : ¬ c) (h : A) : if (!decide c) = true then A else B := by
  rw [decide_eq_false hc]; exact iteT h
theorem iteD {c A B : Prop} [Decidable c] (h1 : c → A) (h2 : ¬ c → B) : if decide c = true then A else B := by
  by_cases h : c
  · rw [decide_eq_true h]; exact iteT (h1 h)
  · rw [decide_eq_false h]; exact iteF (h2 h)
end L2
namespace Mw
open PySem L2
theorem take_snoc {α : Type} {l : List α} {i : Nat} {x : α} (h : l[i]? = some x) : l.take (i + 1) = l.take i ++ [x] := by
  rw [List.take_add_one, h]; rfl
theorem of_map {α : Type} {g : α → V} {l : List α} {i : Nat} {v : V} (h : (l.map g)[i]? = some v) : ∃ x, l[i]? = some x ∧ v = g x := by
  rw [List.getElem?_map] at h
  cases e : l[i]? with
  | none => rw [e] at h; cases h
  | some x => rw [e] at h; exact ⟨x, rfl, (Option.some.inj h).symm⟩
/-- addresses of tuples (top, bottom) -/
def FrAt (K : PySem.W.Frag) (H : Hp) (as : List Addr) (fs : List (Int × Int)) : Prop := Paired (fun a f => SqT K H a [.int f.1, .int f.2]) as fs
theorem FrAt.same {K : PySem.W.Frag} {H H' : Hp} {as : List Addr} {fs : List (Int × Int)} (e : Same H H') (h : FrAt K H as fs) : FrAt K H' as fs := Paired.mapP h fun _ _ q => e.seqT q
theorem paired_get {α β : Type} {R : α → β → Prop} : ∀ {as : List α} {bs : List β} {i : Nat} {a : α}, Paired R as bs → as[i]? = some a → ∃ b, bs[i]? = some b ∧ R a b
  | _, _, _, _, .nil, e => by simp at e
  | _, _, 0, _, .cons r _, e => by simp at e; subst e; exact ⟨_, rfl, r⟩
  | _, _, i + 1, a, .cons _ t, e => by
    obtain ⟨b, h1, h2⟩ := paired_get (i := i) (a := a) t (by simpa using e)
    exact ⟨b, by simpa using h1, h2⟩
theorem paired_get' {α β : Type} {R : α → β → Prop} : ∀ {as : List α} {bs : List β} {i : Nat} {b : β}, Paired R as bs → bs[i]? = some b → ∃ a, as[i]? = some a ∧ R a b
  | _, _, _, _, .nil, e => by simp at e
  | _, _, 0, _, .cons r _, e => by simp at e; subst e; exact ⟨_, rfl, r⟩
  | _, _, i + 1, b, .cons _ t, e => by
    obtain ⟨a, h1, h2⟩ := paired_get' (i := i) (b := b) t (by simpa using e)
    exact ⟨a, by simpa using h1, h2⟩
theorem wk_none {σ2 : St} {n : Nat} (h : σ2.length = n) : Wk (List.replicate n none) σ2 := by
  refine ⟨by rw [h, List.length_replicate], fun i v e => ?_⟩
  rw [List.getElem?_replicate] at e
  split at e <;> cases e
theorem mul64 {i j : Int} (h1 : -18446744073709551616 < i) (h2 : i < 18446744073709551616) (h3 : -18446744073709551616 < j) (h4 : j < 18446744073709551616) : CMulB i j := by
  have e : (2 : Nat) ^ 64 = 18446744073709551616 := by decide
  refine ⟨64, by decide, ?_, ?_⟩
  · show i.natAbs < 2 ^ 64
    omega
  · show j.natAbs < 2 ^ 64
    omega
theorem div64 {i j : Int} (h1 : 0 < j) (h2 : j < 18446744073709551616) : CDivP i j := by
  have e : (2 : Nat) ^ 64 = 18446744073709551616 := by decide
  refine ⟨h1, Bits.mono (n := 64) ?_ (by decide)⟩
  show j.natAbs < 2 ^ 64
  omega
theorem e30 : (10 : Int) ^ 30 = 1000000000000000000000000000000 := by decide
theorem paired_snoc {α β : Type} {R : α → β → Prop} {as : List α} {bs : List β} {a : α} {b : β} (h : Paired R as bs) (r : R a b) : Paired R (as ++ [a]) (bs ++ [b]) := Paired.snoc h r
theorem at_list {ds : List Int} {k : Nat} {z : Int} (hk : k < ds.length) (hz : z = (k : Int)) : ∃ d, d ∈ ds ∧ atI (ds.map V.int) z = some (.int d) := by
  subst hz
  exact ⟨ds[k], List.getElem_mem hk, atI_nat (by rw [List.getElem?_map, List.getElem?_eq_getElem hk]; rfl)⟩
theorem kt_tuple {K : PySem.W.Frag} : PySem.W.kitOne K (.type "tuple") (.type "tuple") = some true := by rfl
theorem kt_int {K : PySem.W.Frag} : PySem.W.kitOne K (.type "int") (.type "int") = some true := by rfl
theorem kt_boolb {K : PySem.W.Frag} : PySem.W.kitOne K (.type "bool") (.type "bool") = some true := by rfl
theorem kt_bool {K : PySem.W.Frag} : PySem.W.kitOne K (.type "int") (.type "bool") = some false := by kernel_rfl
/-- the greatest common factor -/
def spGcd : Sp := fun vs H Q _ => ∃ a b : Int, vs = [.int a, .int b] ∧ Q (.int (Int.gcd a b)) H
def spMixed : Sp := fun vs H Q _ => ∃ c k : Int, vs = [.int c, .int k] ∧ 0 ≤ k ∧ k < 1048576 ∧ Q (.int (mixed c k)) H
/-- draws: so many numbers from 0 on, below the most -/
def spDraws (K : PySem.W.Frag) : Sp := fun vs H Q _ => ∃ (c m n y : Int), vs = [.int c, .int m, .int n, .int y] ∧ 0 < m ∧ Bits 9000 m ∧ 0 ≤ n ∧ n ≤ 1000 ∧
  ∀ r H' (ds : List Int), H r = none → Same H H' → H' r = some (.lst (ds.map V.int)) → ds.length = n.toNat → (∀ d ∈ ds, 0 ≤ d ∧ d < m) → Q (.ref r) H'
end Mw

set_option Elab.async false
set_option linter.all false
set_option maxRecDepth 100000
set_option maxHeartbeats 4000000
namespace L2
open PySem PySem.Spec PyProof.Rows

/-! ## M14. an item of a list or a tuple; max(.., default=d) -/
theorem SqB.t {K : PySem.W.Frag} {H : Hp} {a : Addr} {xs : List V} (h : SqT K H a xs) : SqB K true H a xs := h
theorem SqB.l {K : PySem.W.Frag} {H : Hp} {a : Addr} {xs : List V} (h : SqL K H a xs) : SqB K false H a xs := h
theorem SqB.or {K : PySem.W.Frag} {b : Bool} {H : Hp} {a : Addr} {xs : List V} (h : SqB K b H a xs) : SqL K H a xs ∨ SqT K H a xs := by
  cases b
  · exact .inl h
  · exact .inr h
def rIxB (K : PySem.W.Frag) : R2 := fun x y H Q => ∃ b p xs i v, x = .ref p ∧ y = .int i ∧ SqB K b H p xs ∧ atI xs i = some v ∧ Q v H
section
variable {X : Cx} {K : PySem.W.Frag}
theorem ix_seqK (hK : X.K = K) : IxR X (rIxB K) := by
  subst hK
  intro value slice pins s σ H x y v u Q I rx ry h hs
  obtain ⟨b, p, xs, i, z, e1, e2, hq, ha, q⟩ := h
  cases b
  · exact ix_list value slice pins s σ H x y v u Q I rx ry ⟨p, xs, i, z, e1, e2, hq, ha, q⟩ hs
  · exact ix_tup value slice pins s σ H x y v u Q I rx ry ⟨p, xs, i, z, e1, e2, hq, ha, q⟩ hs
end
/-- a cut behind a statement: what holds there -/
def tJoin (t : TS) : TS := fun D σ H => ∃ J : St → Hp → Prop, t { D with nx := J } σ H ∧ ∀ σ' H', J σ' H' → D.nx σ' H'
theorem ps_join {X : Cx} {st : Stmt} {t : TS} (h : PS X st t) : PS X st (tJoin t) := fun pins s σ H D I ⟨J, h1, h2⟩ => thn (h pins s σ H _ I h1) fun f s' q => by
  cases f with
  | next =>
    obtain ⟨σ', H', I', j⟩ := q
    exact ⟨σ', H', I', h2 σ' H' j⟩
  | brk => exact q
  | cont => exact q
  | ret u => exact q
theorem small9 {n : Nat} (h : n ≤ 1000000) : n < sizeLine := Nat.lt_of_le_of_lt h (by decide)
theorem pick {x y z : Int} (h0 : 0 ≤ z) (h1 : z < 2) : ∃ m : Int, atI [V.int x, V.int y] z = some (.int m) ∧ (m = x ∨ m = y) := by
  have : z = 0 ∨ z = 1 := by omega
  rcases this with rfl | rfl
  · exact ⟨x, rfl, .inl rfl⟩
  · exact ⟨y, rfl, .inr rfl⟩
theorem cutI_in (ns : List Int) {lo hi : Int} (h0 : 0 ≤ lo) (h1 : lo ≤ hi) (h2 : hi ≤ (ns.length : Int)) : cutI ns (some lo) (some hi) = (ns.drop lo.toNat).take (hi - lo).toNat := by
  unfold cutI
  have e1 : HT.sIx ns.length 0 (some lo) = lo.toNat := by
    show (if lo < 0 then (lo + (ns.length : Int)).toNat else min lo.toNat ns.length) = lo.toNat
    rw [if_neg (by omega)]; omega
  have e2 : HT.sIx ns.length ns.length (some hi) = hi.toNat := by
    show (if hi < 0 then (hi + (ns.length : Int)).toNat else min hi.toNat ns.length) = hi.toNat
    rw [if_neg (by omega)]; omega
  rw [e1, e2]
  congr 1
  omega
section
variable {prog : Program} {w : World} {A : Around} {R : Result → Shared → Prop} {I : Addr} {fp wr : List Addr} {n : Nat} {P : Nat → Value → Prop} {St : Nat → Heap → Prop}
abbrev mxArgs (I S : Addr) (d : Value) : Args := ⟨[.ref I, .none, .ref S], [(Str.ofString "default", d)]⟩
theorem mx_name : (toString "max" ++ toString ".loop" : String) = "max.loop" := by decide
theorem mx_turns (W : Walks prog w A.in1 I fp wr n P St) (bt : Nat → Nat → Bool) (hcmp : CmpOf prog w A.in1 .Gt P bt) (S : Addr) (hSf : S ∉ fp) (d : Value) :
    ∀ (k j : Nat) (s : Shared) (vb : Value) (c : Nat), n - (j + 1) = k → j + 1 ≤ n → St (j + 1) s.heap → P (argBest bt j) vb → s.heap.get? S = some { cls := .type "list", dict := none, data := .seq #[vb, vb] c, slots := #[] } →
    (∀ v g tk, P (argBest bt (n - 1)) v → (∀ b o, b ∉ wr → b ≠ S → s.heap.get? b = some o → g.get? b = some o) → R (.ok (.ret v)) { s with heap := g, toks := tk }) → codeAny (model prog w) A (.builtin "max.loop" (mxArgs I S d)) R s := by
  have nw : S ∉ wr := fun q => hSf (W.sub _ q)
  intro k
  induction k with
  | zero =>
    intro j s vb c hk hj hst hb hS hR
    obtain rfl : j + 1 = n := by omega
    refine (codeAny_builtin F.entry_max_loop ?_)
    rw [Around.under_plainId F.plain_max_loop _]
    show wpAny _ A.in1 (seqItems? (Value.ref S) >>= _) _ _ s
    refine (wpAny_bind (wpAny_seqItems hS rfl ?_))
    show wpAny _ A.in1 (tryCatch (pyNext (Value.ref I)) _ >>= _) _ _ s
    refine wpAny_bind (wpAny_tryCatch (W.done s _ _ hst fun g tk kk => ?_))
    have hS1 := kk S _ nw hS
    show wpAny _ A.in1 (updateSeq S (fun _ => (#[] : Array Value)) >>= _) _ _ _
    refine wpAny_bind (wpAny_updateSeq hS1 rfl (wpAny_bind (wpAny_letGo (wpAny_pure ?_))))
    exact hR vb _ tk hb fun b o hbw hbS e => (Heap.get?_update_other _ _ (Ne.symm hbS)).trans (kk b o hbw e)
  | succ k ih =>
    intro j s vb c hk hj hst hb hS hR
    have hlt : j + 1 < n := by omega
    refine (codeAny_builtin F.entry_max_loop ?_)
    rw [Around.under_plainId F.plain_max_loop _]
    show wpAny _ A.in1 (seqItems? (Value.ref S) >>= _) _ _ s
    refine (wpAny_bind (wpAny_seqItems hS rfl ?_))
    show wpAny _ A.in1 (tryCatch (pyNext (Value.ref I)) _ >>= _) _ _ s
    refine wpAny_bind (wpAny_tryCatch (W.item (j + 1) s _ _ hlt hst fun v g tk hP st2 kk => ?_))
    have hS1 := kk S _ nw hS
    show wpAny _ A.in1 (tryCatch (holding [v, v] (richCompare CmpOp.Gt v vb >>= _)) _ >>= _) _ _ _
    refine wpAny_bind (wpAny_tryCatch (wpAny_holding (wpAny_bind (hcmp (j + 1) (argBest bt j) v vb _ _ _ hP hb ?_))))
    refine wpAny_bind (wpAny_holding (wpAny_truthy_bool (wpAny_bind (wpAny_letGo (wpAny_pure ?_)))))
    cases q : bt (j + 1) (argBest bt j) with
    | true =>
      simp only [if_true]
      refine (wpAny_bind (wpAny_updateSeq hS1 rfl (wpAny_bind (wpAny_letGo ?_))))
      rw [mx_name]
      refine wpAny_pure ⟨plainId_quiet F.plain_max_loop _, ih (j + 1) _ v _ (by omega) hlt (W.frame _ _ _ st2 fun b hbf o e => (Heap.get?_update_other _ _ (fun z : S = b => hSf (by rw [z]; exact hbf))).trans e) (by simp only [argBest, q, if_true]; exact hP) (Heap.get?_update_self _ hS1 rfl) fun v2 g2 tk2 hP2 kk2 => ?_⟩
      exact hR v2 g2 tk2 hP2 fun b o hbw hbS e => kk2 b o hbw hbS ((Heap.get?_update_other _ _ (Ne.symm hbS)).trans (kk b o hbw e))
    | false =>
      simp only [Bool.false_eq_true, if_false]
      refine (wpAny_bind (wpAny_letGo ?_))
      rw [mx_name]
      refine wpAny_pure ⟨plainId_quiet F.plain_max_loop _, ih (j + 1) _ vb c (by omega) hlt st2 (by simp only [argBest, q, Bool.false_eq_true, if_false]; exact hb) hS1 fun v2 g2 tk2 hP2 kk2 => ?_⟩
      exact hR v2 g2 tk2 hP2 fun b o hbw hbS e => kk2 b o hbw hbS (kk b o hbw e)
end
section
variable {prog : Program} {w : World} {A : Around} {E : Value → Shared → Prop} {s : Shared}
theorem mx_args (a v : Value) : argsOk "max" ⟨[a], [(Str.ofString "default", v)]⟩ := by unfold argsOk; kernel_rfl
/-- max(list of ints, default=d) -/
theorem max_dflt {l : Addr} {xs : Array (Int × Tok)} {d : Value} {Q : Value → Shared → Prop} (hh : A.handled = none) (hl : s.heap.IsList l (intItems xs))
    (h : ∀ v g tk, ((xs.size = 0 ∧ v = d) ∨ (0 < xs.size ∧ (intItems xs)[argBest (fun i j => decide (numAt xs i > numAt xs j)) (xs.size - 1)]? = some v)) → (∀ b o, s.heap.get? b = some o → g.get? b = some o) → Q v { s with heap := g, toks := tk }) :
    wpAny (model prog w) A (call (.builtin "max") [.ref l] [(Str.ofString "default", d)]) Q E s := by
  refine PyProof.Rows.kmk_tree F.kind_max F.plain_max F.entry_max (mx_args _ _) ?_
  show wpAny _ A.in1 (Builtin.Builtins.bindParams "max" ["key", "default"] 0 ⟨[], [(Str.ofString "default", d)]⟩ >>= _) _ _ s
  refine wpAny_bind (wpAny_of_eq (show Builtin.Builtins.bindParams "max" ["key", "default"] 0 ⟨[], [(Str.ofString "default", d)]⟩ = pure [none, some d] from rfl) (wpAny_bind (wpAny_pure ?_)))
  refine wpAny_bind (iter_intList hl fun s2 e st hfp hlI => ?_)
  subst e
  refine wpAny_bind (wpAny_newObj_type ?_)
  have hSf : (s.heap.push { cls := .type "list_iterator", data := .fields #[.ref l, .int 0 0] }).objs.size ∉ [s.heap.objs.size, l] := fun q => Nat.lt_irrefl _ (hfp _ q)
  rw [mx_name]
  have W := Walks.list (prog := prog) (w := w) (A := A.in1) hh s.heap.objs.size l hlI (intItems xs)
  have nw : (s.heap.push { cls := .type "list_iterator", data := .fields #[.ref l, .int 0 0] }).objs.size ∉ [s.heap.objs.size] := fun q => hSf (W.sub _ q)
  have st1 := W.frame _ _ _ st fun b _ o e => Heap.get?_push_of_some ({ cls := .type "list", data := .seq ([] : List Value).toArray } : Obj) e
  have hS := Heap.get?_push_size (s.heap.push { cls := .type "list_iterator", data := .fields #[.ref l, .int 0 0] }) (o := ({ cls := .type "list", data := .seq ([] : List Value).toArray } : Obj)) rfl
  have old : ∀ g : Heap, (∀ b o, b ∉ [s.heap.objs.size] → b ≠ (s.heap.push { cls := .type "list_iterator", data := .fields #[.ref l, .int 0 0] }).objs.size → ((s.heap.push { cls := .type "list_iterator", data := .fields #[.ref l, .int 0 0] }).push { cls := .type "list", data := .seq ([] : List Value).toArray }).get? b = some o → g.get? b = some o) →
      ∀ b o, s.heap.get? b = some o → g.get? b = some o := fun g k b o e => by
    have lt := Heap.lt_size e
    refine k b o (fun q => ?_) (fun q => ?_) (Heap.get?_push_of_some _ (Heap.get?_push_of_some _ e))
    · exact absurd (List.mem_singleton.mp q) (Nat.ne_of_lt lt)
    · have z : (s.heap.push { cls := .type "list_iterator", data := .fields #[.ref l, .int 0 0] }).objs.size = s.heap.objs.size + 1 := Heap.size_push ..
      rw [q, z] at lt
      exact absurd lt (Nat.not_lt.mpr (Nat.le_succ _))
  refine (wpAny_pure ⟨plainId_quiet F.plain_max_loop _, ?_⟩)
  refine codeAny_builtin F.entry_max_loop (by
    rw [Around.under_plainId F.plain_max_loop _]
    show wpAny _ A.in1 (seqItems? (Value.ref _) >>= _) _ _ _
    refine wpAny_bind (wpAny_seqItems hS rfl ?_)
    show wpAny _ A.in1 (tryCatch (pyNext (Value.ref s.heap.objs.size)) _ >>= _) _ _ _
    by_cases hn : xs.size = 0
    · refine wpAny_bind (wpAny_tryCatch (W.done _ _ _ (by rw [show (intItems xs).size = 0 from by simpa [intItems] using hn]; exact st1) fun g tk kk => ?_))
      refine wpAny_bind (wpAny_rule (wpAny_pure ?_))
      exact h d g tk (.inl ⟨hn, rfl⟩) (old g fun b o q _ e => kk b o q e)
    · have hp : 0 < xs.size := by omega
      have hsz : (intItems xs).size = xs.size := by simp [intItems]
      refine wpAny_bind (wpAny_tryCatch (W.item 0 _ _ _ (by rw [hsz]; exact hp) st1 fun v g tk hP st2 kk => ?_))
      have hS1 := kk _ _ nw hS
      show wpAny _ A.in1 (updateSeq _ (fun _ => #[v, v]) >>= _) _ _ _
      refine wpAny_bind (wpAny_updateSeq hS1 rfl ?_)
      rw [mx_name]
      refine wpAny_pure ⟨plainId_quiet F.plain_max_loop _, mx_turns W _ (CmpOf.ints_gt (numAt xs) (fun _ _ => intItems_at)) _ hSf d _ 0 _ v _ rfl (by rw [hsz]; exact hp) (W.frame _ _ _ st2 fun b hbf o e => (Heap.get?_update_other _ _ (fun z => hSf (by rw [z]; exact hbf))).trans e) hP (Heap.get?_update_self _ hS1 rfl) fun v2 g2 tk2 hP2 kk2 => ?_⟩
      refine h v2 g2 tk2 (.inr ⟨hp, by simpa [hsz] using hP2⟩) (old g2 fun b o q1 q2 e => kk2 b o q1 q2 ((Heap.get?_update_other _ _ (Ne.symm q2)).trans (kk b o q1 e))))
end
/-- a call of a built-in function with one keyword -/
def CallK1 (X : Cx) (id : String) (kw : Str) (r : List V → V → Hp → VK → Prop) : Prop :=
  ∀ (pins : List (Addr × Obj)) (s : Shared) (σ : St) (H : Hp) (xs : List V) (us : List Value) (z : V) (k : Value) (Q : VK), Inv X pins σ H s → Vals xs us → RelV z k → r xs z H Q →
    wpAny (model X.prog X.w) X.A (call (.builtin id) us [(kw, k)]) (EP X pins σ Q) X.xe s
def tCK (r : List V → V → Hp → VK → Prop) (t : TA) (te : TE) : TE := fun σ H Q => t σ H fun vs H1 => te σ H1 fun z H2 => r vs z H2 Q
section
variable {X : Cx} {x kw : Str} {p pos kpos : Pos} {e d : Expr} {es : List Expr} {t : TA} {te : TE} {id : String} {r : List V → V → Hp → VK → Prop}
theorem keeps_builtin {M : Model} {h : Heap} {id : String} (hk : keeperOf (.builtin id) = pure Keeper.machine) : ∃ k, (k = Keeper.frame ∨ k = Keeper.machine ∨ k = Keeper.boundFrame) ∧ PySem.W.Looks M h (keeperOf (.builtin id)) k :=
  ⟨_, .inr (.inl rfl), PySem.W.Looks.of_pure hk⟩
theorem pe_callBK (hc : CallK1 X id kw r) (hg : Gl X x) (hm : X.mg x = none) (hv : bootBuiltins x = some (.builtin id)) (ha : PA X (e :: es) t) (hd : PE X d te) (hmono : ∀ σ H (Q Q' : VK), (∀ v H', Q v H' → Q' v H') → te σ H Q → te σ H Q' := by intro σ H Q Q' m h; exact m _ _ h) (hkp : keeperOf (.builtin id) = pure Keeper.machine := by rfl) (hn : x ≠ "__name__" := by decide) (hdb : (x == ("__debug__" : Str)) = false := by decide)
    (he : starEach (e :: es) X.env = (false, eval e X.env) :: starEach es X.env := by rfl) (hpl : ((backTo pos (starEach (e :: es) X.env)).any (·.1) || (backToKw pos (keywordEach [⟨some kw, d, kpos⟩] X.env)).any (·.1.isNone)) = false := by rfl) :
    PE X (.Call (.Name x p) (e :: es) [⟨some kw, d, kpos⟩] pos) (tCK r t te) := by
  intro pins s σ H Q I h
  refine wpAny_Call_Name_kw (ld_blt I hg hm hv ?_ hn hdb)
  refine PySem.W.callWith_of (P := fun _ => True) hpl (fun h _ => keeps_builtin hkp) (evalArgs_kw2 (by rfl) (thn (ha pos pins s σ H _ I h) fun us s1 ⟨vs, H1, I1, r1, q1⟩ => ?_) he)
  have hk : PK X [⟨some kw, d, kpos⟩] (tCons te tNil) := pk_cons hd pk_nil
  refine thn (hk pos pins s1 σ H1 (fun zs H2 => ∃ z, zs = [z] ∧ r vs z H2 Q) I1 (show te σ H1 (fun z H2 => ∃ z', [z] = [z'] ∧ r vs z' H2 Q) from hmono σ H1 _ _ (fun z H2 h => ⟨z, rfl, h⟩) q1)) fun ks s2 ⟨zs, H2, I2, r2, z, hz, q2⟩ => ⟨trivial, ?_⟩
  subst hz
  obtain ⟨k, rfl, r3⟩ := vals1 r2
  exact hc pins s2 σ H2 vs us _ _ Q I2 r1 r3 q2
theorem call_maxD (hc : X.calm = true) : CallK1 X "max" "default" (fun xs z H Q => ∃ (a : Addr) (ns : List Int) (d : Int), xs = [.ref a] ∧ z = .int d ∧ SqL X.K H a (ns.map V.int) ∧ ∀ m, ((ns = [] ∧ m = d) ∨ (m ∈ ns ∧ ∀ b ∈ ns, b ≤ m)) → Q (.int m) H) := by
  intro pins s σ H xs us z k Q I r rz h
  obtain ⟨a, ns, d, rfl, rfl, hs, q⟩ := h
  obtain ⟨u, rfl, r1⟩ := vals1 r
  obtain rfl : u = Value.ref a := r1
  obtain ⟨td, rfl⟩ := rz
  obtain ⟨its, rv, p, hz⟩ := I.list hs
  obtain ⟨zs, e⟩ := (intsAre_of rv).allInts.items
  have hns : ns = zs.toList.map (·.1) := by rw [← (intsAre_of rv).numsOf, ← nums_intItems, ← e]
  have hlen : ns.length = zs.size := by rw [hns, List.length_map, Array.length_toList]
  have hl := p.isList
  rw [e] at hl
  refine max_dflt (I.ok.hd hc) hl fun v g tk hv hk => ?_
  rcases hv with ⟨h0, rfl⟩ | ⟨h0, hv⟩
  · exact ⟨.int d, H, I.kept hk, ⟨_, rfl⟩, q d (.inl ⟨List.length_eq_zero_iff.mp (by omega), rfl⟩)⟩
  · obtain ⟨t, rfl⟩ := intItems_at hv
    obtain ⟨h1, h2⟩ := argBest_gt (numAt zs) (zs.size - 1)
    have e3 : ∀ k, k < zs.size → numAt zs k ∈ ns := fun k hk => by
      rw [hns]
      refine List.mem_map.mpr ⟨zs[k], by simp, ?_⟩
      simp [numAt, hk]
    have e4 : ∀ b ∈ ns, ∃ k, k < zs.size ∧ numAt zs k = b := fun b hb => by
      rw [hns] at hb
      obtain ⟨y, hy, rfl⟩ := List.mem_map.mp hb
      obtain ⟨k, hk, hk2⟩ := List.getElem_of_mem hy
      have hk' : k < zs.size := by simpa using hk
      refine ⟨k, hk', ?_⟩
      simp [numAt, hk', ← hk2]
    refine ⟨.int (numAt zs (argBest (fun i j => decide (numAt zs i > numAt zs j)) (zs.size - 1))), H, I.kept hk, ⟨_, rfl⟩, q _ (.inr ⟨e3 _ (by omega), fun b hb => ?_⟩)⟩
    obtain ⟨k, hk1, rfl⟩ := e4 b hb
    exact h2 k (by omega)
end
end L2

set_option Elab.async false
set_option linter.all false
set_option maxRecDepth 100000
set_option maxHeartbeats 4000000
namespace L2
open PySem PySem.Spec PyProof.Rows
/-! ## M20. objects of several classes: o.m(..), C(..), Base.m(o, ..), each of which may raise -/
theorem FnOk.toX {P : Program} {w : World} {K : PySem.W.Frag} {mg : Str → Option Value} {base : Heap} {CX : CXT} {k : Nat} {f : Addr} {fd : FuncData} {ps : List Str} {sp : Sp} (F : FnOk P w K mg base CX0 k f fd ps sp) : FnOk P w K mg base CX k f fd ps sp :=
  ⟨F.len, fun A outer s H args us vs Q E hr he hb hv hs => codeAny_mono (F.run A outer s H args us vs Q E hr he hb hv hs) fun r s' h => by
    cases r with
    | error e => exact h.elim
    | ok fl => cases fl <;> exact h⟩
theorem Cal.toX {P : Program} {w : World} {K : PySem.W.Frag} {mg : Str → Option Value} {base : Heap} {k : Nat} {x : Str} {ps : List Str} {sp : Sp} (c : Cal P w K mg base k x ps sp) : CalX P w K mg base k x ps sp := by
  obtain ⟨f, fd, F, m, kk, b⟩ := c.ex
  exact ⟨⟨f, fd, F.toX, m, kk, b⟩⟩
/-- the promise, of an object of the class at C -/
def SpOf (C : Addr) (sp : Sp) : Sp := fun vs H Q E => (∃ (a : Addr) (us : List V) (dx : Addr) (fs : List (Str × V)), vs = .ref a :: us ∧ H a = some (.ins C dx fs)) ∧ sp vs H Q E
/-- a method of the objects of the classes Kd -/
structure MCal (P : Program) (w : World) (K : PySem.W.Frag) (mg : Str → Option Value) (base : Heap) (k : Nat) (Kd : Addr → Prop) (m : Str) (ps : List Str) (sp : Sp) : Prop where
  ex : ∀ C, Kd C → Cls K C ∧ ∃ f fd, Meth K C m f ∧ FnOk P w K mg base (CXE P w) k f fd ps (SpOf C sp) ∧ Binds K fd ps []
def tMethG (Kd : Addr → Prop) (m : Str) (sp : Sp) (G : St → XK) (ta : TE) (t : TA) : TE := fun σ H Q => ta σ H fun x H1 => ∃ a C dx fs, x = .ref a ∧ H1 a = some (.ins C dx fs) ∧ Kd C ∧ fs.lookup m = none ∧
  t σ H1 fun vs H2 => (∃ dx2 fs2, H2 a = some (.ins C dx2 fs2)) ∧ sp (x :: vs) H2 Q (G σ)
/-- what a class's making promises is told of the new object -/
def SpInit (C : Addr) (sp : Sp) : Sp := fun vs H Q E => ∃ (x dx : Addr) (us : List V) (H1 : Hp), vs = .ref x :: us ∧ H1 x = none ∧ H1 dx = none ∧ dx ≠ x ∧ H = upd (upd H1 dx (.own x)) x (.ins C dx []) ∧ sp us H1 (fun v H2 => v = .ref x → Q .non H2) E
def SpMono (sp : Sp) : Prop := ∀ vs H (Q Q' : VK) E, (∀ v H, Q v H → Q' v H) → sp vs H Q E → sp vs H Q' E
/-- a class of the text, by its name: what C(..) promises -/
structure NCal (P : Program) (w : World) (K : PySem.W.Frag) (mg : Str → Option Value) (base : Heap) (k : Nat) (x : Str) (ps : List Str) (sp : Sp) : Prop where
  ex : ∃ C f fd, Mk K C f ∧ mg x = some (.ref C) ∧ FnOk P w K mg base (CXE P w) k f fd ps (SpInit C sp) ∧ Binds K fd ps []
  mono : SpMono sp
/-- a def of a class of the text, called by the class's name -/
structure BCal (P : Program) (w : World) (K : PySem.W.Frag) (mg : Str → Option Value) (base : Heap) (k : Nat) (x m : Str) (ps : List Str) (sp : Sp) : Prop where
  ex : ∃ C mc f fd, mg x = some (.ref C) ∧ PySem.W.specialIn K (.ref C) "__getattribute__" = some (some (.builtin "type.__getattribute__")) ∧ PySem.W.readsIn K C mc = true ∧
    PySem.W.findCls K (.ref C) mc m = some (.val (.ref f)) ∧ PySem.W.keepIn K (.ref f) = true ∧ FnOk P w K mg base (CXE P w) k f fd ps sp ∧ Binds K fd ps []
section
variable {X : Cx} {k : Nat} {f C : Addr} {fd : FuncData} {ps : List Str} {sp : Sp} {G : St → XK} {Kd : Addr → Prop} {x m : Str} {p pos apos : Pos} {e o : Expr} {es : List Expr} {ta : TE} {t : TA}
theorem pe_methG {pl : Sem Bool} (he : PE X o ta) (c : MCal X.prog X.w X.K X.mg X.base k Kd m ps sp) (hr : Room k X.A) (hx : PassG (CXE X.prog X.w) X G) (ha : PA X (e :: es) t)
    (hst : starEach (e :: es) X.env = (false, eval e X.env) :: starEach es X.env := by rfl) (hpl : (backTo pos (starEach es X.env)).any (·.1) = false := by rfl)
    (ht : eval (.Call (.Attribute o m apos) (e :: es) [] pos) X.env = (do
      let ov ← eval o X.env
      standAt apos.atName
      let (f, first) ← holding [ov] (getMethod ov m pl)
      callWith pos f first (backTo pos (starEach (e :: es) X.env)) (backToKw pos (keywordEach [] X.env))) := by rfl) :
    PE X (.Call (.Attribute o m apos) (e :: es) [] pos) (tMethG Kd m sp G ta t) := by
  intro pins s σ H Q I h
  refine PySem.W.methodCall_KW (pl := pl) (thn (he pins s σ H _ I h) fun u s1 ⟨x, H1, I1, rx, a, C, dx, fs, ex, ea, kd, l, q⟩ => ?_) ht
  subst ex
  obtain rfl : u = Value.ref a := rx
  obtain ⟨cl, f, fd, hm, F, hb⟩ := c.ex C kd
  refine getmeth_ok I1 ea cl hm l ?_
  refine PySem.W.callWith_K (first := [.ref a]) (h₀ := X.base) I.ok.mod.kin hm.kp (thn (ha pos pins s1 σ H1 _ I1 q) fun us s2 ⟨vs, H2, I2, r, ⟨dx2, fs2, h2⟩, q2⟩ => ⟨I2.kIn, ?_⟩) hst hpl
  exact run_fnG (us := .ref a :: us) (vs := .ref a :: vs) (dvs := []) (ds := []) F hr hb .nil hx I2 (.cons rfl r) (by rw [List.append_nil]; exact ⟨⟨a, vs, dx2, fs2, rfl, h2⟩, q2⟩)
theorem pe_methG0 {pl : Sem Bool} (he : PE X o ta) (c : MCal X.prog X.w X.K X.mg X.base k Kd m ps sp) (hr : Room k X.A) (hx : PassG (CXE X.prog X.w) X G)
    (ht : eval (.Call (.Attribute o m apos) [] [] pos) X.env = (do
      let ov ← eval o X.env
      standAt apos.atName
      let (f, first) ← holding [ov] (getMethod ov m pl)
      callWith pos f first (backTo pos (starEach [] X.env)) (backToKw pos (keywordEach [] X.env))) := by rfl) :
    PE X (.Call (.Attribute o m apos) [] [] pos) (tMethG Kd m sp G ta tNil) := by
  intro pins s σ H Q I h
  refine PySem.W.methodCall_KW (pl := pl) (thn (he pins s σ H _ I h) fun u s1 ⟨x, H1, I1, rx, a, C, dx, fs, ex, ea, kd, l, q⟩ => ?_) ht
  subst ex
  obtain rfl : u = Value.ref a := rx
  obtain ⟨cl, f, fd, hm, F, hb⟩ := c.ex C kd
  refine getmeth_ok I1 ea cl hm l ?_
  exact PySem.W.callWith_K0 (first := [.ref a]) I1.kIn hm.kp (run_fnG (us := [.ref a]) (vs := [.ref a]) (dvs := []) (ds := []) F hr hb .nil hx I1 (.cons rfl .nil) (by obtain ⟨⟨dx2, fs2, h2⟩, q2⟩ := q; exact ⟨⟨a, [], dx2, fs2, rfl, h2⟩, q2⟩))
/-- the class is called -/
theorem run_makeG {pins : List (Addr × Obj)} {σ : St} {H : Hp} {s : Shared} {Q : VK} {us : List Value} {vs : List V} (M : Mk X.K C f) (F : FnOk X.prog X.w X.K X.mg X.base (CXE X.prog X.w) k f fd ps (SpInit C sp)) (mo : SpMono sp) (hr : Room (k + 1) X.A) (hb : Binds X.K fd ps [])
    (hx : PassG (CXE X.prog X.w) X G) (I : Inv X pins σ H s) (r : Vals vs us) (h : sp vs H Q (G σ)) : wpAny (model X.prog X.w) X.A (call (.ref C) us) (EP X pins σ Q) X.xe s := by
  have hq : SpInit C sp (V.ref (s.heap.objs.size + 1) :: vs) (upd (upd H s.heap.objs.size (.own (s.heap.objs.size + 1))) (s.heap.objs.size + 1) (.ins C s.heap.objs.size [])) (fun v H2 => v = .non ∧ Q (.ref (s.heap.objs.size + 1)) H2) (G σ) :=
    ⟨s.heap.objs.size + 1, s.heap.objs.size, vs, H, rfl, I.hok.fresh (Nat.le_succ _), I.hok.fresh (Nat.le_refl _), Nat.ne_of_lt (Nat.lt_succ_self _), rfl, mo _ _ _ _ _ (fun v H2 q e => ⟨rfl, by rw [← e]; exact q⟩) h⟩
  have I2 := Inv.made (C := C) I
  have r2 : Vals (V.ref (s.heap.objs.size + 1) :: vs) (Value.ref (s.heap.objs.size + 1) :: us) := .cons rfl r
  have hl : (Value.ref (s.heap.objs.size + 1) :: us ++ []).length = ps.length := by
    have e := r2.length
    rw [F.len _ _ _ _ hq] at e
    rw [List.append_nil]; exact e.symm
  have hb2 := hb _ (Value.ref (s.heap.objs.size + 1) :: us) I2.kIn hl
  rw [List.append_nil] at hb2
  refine wpAny_call (make_map (f := f) I.kIn M.makes M.init (beq_iff_eq.mp M.fn) (codeAny_mono (F.run _ X.stack _ _ ⟨Value.ref (s.heap.objs.size + 1) :: us, []⟩ (Value.ref (s.heap.objs.size + 1) :: us) _ _ (G σ) (hr.make C us [])
    (I2.env0.make C us []) hb2 r2 hq) fun r s' hq' => ?_))
  cases r with
  | error e => exact hx pins σ _ _ e s' I2 hq'
  | ok fl =>
    cases fl with
    | ret u =>
      obtain ⟨v, H', I3, rv, ev, q3⟩ := I2.after hq'
      subst ev
      exact ⟨rv, ⟨V.ref (s.heap.objs.size + 1), H', I3, rfl, q3⟩⟩
    | next => exact False.elim hq'
    | brk => exact False.elim hq'
    | cont => exact False.elim hq'
theorem pe_newG (c : NCal X.prog X.w X.K X.mg X.base k x ps sp) (hr : Room (k + 1) X.A) (hg : Gl X x) (hx : PassG (CXE X.prog X.w) X G)
    (ha : PA X (e :: es) t) (hdb : (x == ("__debug__" : Str)) = false := by decide) (he : starEach (e :: es) X.env = (false, eval e X.env) :: starEach es X.env := by rfl) (hpl : (backTo pos (starEach es X.env)).any (·.1) = false := by rfl) :
    PE X (.Call (.Name x p) (e :: es) [] pos) (tCallG sp [] G t) := by
  obtain ⟨⟨C, f, fd, M, hm, F, hb⟩, mo⟩ := c
  intro pins s σ H Q I h
  refine wpAny_Call_Name_kw (ld_glob I hg hm ?_ hdb)
  refine PySem.W.callWith_K (h₀ := X.base) I.ok.mod.kin M.kp (thn (ha pos pins s σ H _ I h) fun us s1 ⟨vs, H1, I1, r, q⟩ => ⟨I1.kIn, ?_⟩) he hpl
  exact run_makeG M F mo hr hb hx I1 r (by have q2 : sp (vs ++ []) H1 Q (G σ) := q; rw [List.append_nil] at q2; exact q2)
/-- Base.m(o, ..) -/
theorem pe_baseG {pl : Sem Bool} (c : BCal X.prog X.w X.K X.mg X.base k x m ps sp) (hr : Room k X.A) (hg : Gl X x) (hx : PassG (CXE X.prog X.w) X G) (ha : PA X (e :: es) t) (hdb : (x == ("__debug__" : Str)) = false := by decide)
    (hst : starEach (e :: es) X.env = (false, eval e X.env) :: starEach es X.env := by rfl) (hpl : (backTo pos (starEach es X.env)).any (·.1) = false := by rfl)
    (ht : eval (.Call (.Attribute (.Name x p) m apos) (e :: es) [] pos) X.env = (do
      let ov ← eval (.Name x p) X.env
      standAt apos.atName
      let (f, first) ← holding [ov] (getMethod ov m pl)
      callWith pos f first (backTo pos (starEach (e :: es) X.env)) (backToKw pos (keywordEach [] X.env))) := by rfl) :
    PE X (.Call (.Attribute (.Name x p) m apos) (e :: es) [] pos) (tCallG sp [] G t) := by
  obtain ⟨C, mc, f, fd, hm, hs, hrd, hf, kp, F, hb⟩ := c.ex
  intro pins s σ H Q I h
  refine PySem.W.methodCall_KW (pl := pl) (ld_glob I hg hm ?_ hdb) ht
  refine PySem.W.method_cls I.kIn hs (PySem.W.cls_value I.kIn hrd hf rfl ?_)
  have I1 := I.tok (s.toks + 1)
  refine PySem.W.callWith_K (first := []) (h₀ := X.base) I.ok.mod.kin kp (thn (ha pos pins _ σ H _ I1 h) fun us s2 ⟨vs, H2, I2, r, q2⟩ => ⟨I2.kIn, ?_⟩) hst hpl
  exact run_fnG F hr hb .nil hx I2 r q2
end
theorem comp_range {lo : Int} {n : Nat} {fr : List (Option Nat)} {g : TG} {tc : TT} {te : TE} {D : Addr} {σ : St} {H1 : Hp} {Q : VK} (Pv : Nat → List V → Hp → Prop) (h0 : Pv 0 [] (upd H1 D (.lst [])))
    (hD : ∀ i ys H, i ≤ n → Pv i ys H → H D = some (.lst ys) ∧ ys.length ≤ i) (hn : n ≤ sizeLine)
    (hs : ∀ i ys H, i < n → Pv i ys H → g (.int (lo + i)) (carry fr σ) H fun σ2 H2 => Wk (carry fr σ) σ2 ∧ tc σ2 H2 fun b H3 => if b = true then te σ2 H3 fun y H4 => H4 D = some (.lst ys) ∧ Pv (i + 1) (ys ++ [y]) (upd H4 D (.lst (ys ++ [y]))) else Pv (i + 1) ys H3)
    (hd : ∀ ys H, Pv n ys H → Q (.ref D) H) : tTurns fr g tc te D (Itr lo n) σ H1 Q := by
  refine comp_seq (n := n) Pv h0 hD (fun i ys H hi p => hi) (fun ys H p => Nat.le_refl _) hn (fun i ys H x H' hi p y => ?_) hd
  obtain ⟨e, y⟩ := y
  subst e y
  exact hs i ys _ hi p
/-! ## M21. classes and their defs as the top leaves them -/
structure ClsAt (K : PySem.W.Frag) (mg : Str → Option Value) (x : Str) (C : Addr) : Prop where
  cl : Cls K C
  makes : PySem.W.makesIn K C = true
  kp : PySem.W.keepIn K (.ref C) = true
  g : mg x = some (.ref C)
structure MethAt (K : PySem.W.Frag) (C : Addr) (m qual : Str) (st : Stmt) : Prop where
  ex : ∃ f fd, Meth K C m f ∧ Fun K m qual st f fd
structure BaseAt (K : PySem.W.Frag) (C : Addr) (m qual : Str) (st : Stmt) : Prop where
  ex : ∃ f fd, PySem.W.specialIn K (.ref C) "__getattribute__" = some (some (.builtin "type.__getattribute__")) ∧ PySem.W.readsIn K C (.type "type") = true ∧ PySem.W.findCls K (.ref C) (.type "type") m = some (.val (.ref f)) ∧ Fun K m qual st f fd
structure ExR (K : PySem.W.Frag) (mg : Str → Option Value) (x : Str) (C : Addr) : Prop where
  c : ExcC K C
  g : mg x = some (.ref C)
def BindQ (x qual : Str) (st : Stmt) (ps : List Str) : Prop := ∀ (kV doc pm : Value) (an : Option Addr) (cdv ct : Value) (us : List Value), us.length = ps.length → bindArgs (PySem.W.fnOf x qual (defArgs st) (defBody st) (defScope st) .none kV doc pm an cdv ct) ⟨us, []⟩ = pure (ps.zip us)
section
variable {P : Program} {w : World} {K : PySem.W.Frag} {mg : Str → Option Value} {base : Heap} {C : Addr} {x m qual : Str} {st : Stmt} {ps : List Str} {k : Nat} {sp : Sp}
theorem MethAt.use (h : MethAt K C m qual st) (c : Cls K C) (hb : BindQ m qual st ps) (ok : ∀ f fd, Fun K m qual st f fd → FnOk P w K mg base (CXE P w) k f fd ps (SpOf C sp)) : Cls K C ∧ ∃ f fd, Meth K C m f ∧ FnOk P w K mg base (CXE P w) k f fd ps (SpOf C sp) ∧ Binds K fd ps [] := by
  obtain ⟨f, fd, M, F⟩ := h.ex
  exact ⟨c, f, fd, M, ok f fd F, F.binds hb⟩
theorem ClsAt.new (c : ClsAt K mg x C) (h : MethAt K C "__init__" qual st) (hb : BindQ "__init__" qual st ps) (mo : SpMono sp) (ok : ∀ f fd, Fun K "__init__" qual st f fd → FnOk P w K mg base (CXE P w) k f fd ps (SpInit C sp)) : NCal P w K mg base k x ps sp := by
  obtain ⟨f, fd, M, F⟩ := h.ex
  exact ⟨⟨C, f, fd, ⟨c.makes, M.at_, M.fn, c.kp⟩, c.g, ok f fd F, F.binds hb⟩, mo⟩
theorem BaseAt.use (g : mg x = some (.ref C)) (h : BaseAt K C m qual st) (hb : BindQ m qual st ps) (ok : ∀ f fd, Fun K m qual st f fd → FnOk P w K mg base (CXE P w) k f fd ps sp) : BCal P w K mg base k x m ps sp := by
  obtain ⟨f, fd, h1, h2, h3, F⟩ := h.ex
  exact ⟨⟨C, _, f, fd, g, h1, h2, h3, F.kp, ok f fd F, F.binds hb⟩⟩
end
end L2

set_option linter.all false
namespace Mw
/-! ## products -/
def dot (xs ys : List Int) : Int := (List.zipWith (· * ·) xs ys).sum
theorem zip_get {xs ys : List Int} {i : Nat} {x y : Int} (h1 : xs[i]? = some x) (h2 : ys[i]? = some y) : (List.zipWith (· * ·) xs ys)[i]? = some (x * y) := by
  rw [List.getElem?_zipWith, h1, h2]
theorem sum_snoc (l : List Int) (x : Int) : (l ++ [x]).sum = l.sum + x := by
  rw [List.sum_append]; simp
theorem dot_step {xs ys : List Int} {i : Nat} {x y : Int} (h1 : xs[i]? = some x) (h2 : ys[i]? = some y) :
    ((List.zipWith (· * ·) xs ys).take (i + 1)).sum = ((List.zipWith (· * ·) xs ys).take i).sum + x * y := by
  rw [List.take_add_one, zip_get h1 h2]
  exact sum_snoc _ _
theorem dot_all {xs ys : List Int} {n : Nat} (h : min xs.length ys.length ≤ n) : ((List.zipWith (· * ·) xs ys).take n).sum = dot xs ys := by
  rw [List.take_of_length_le (by rw [List.length_zipWith]; exact h)]; rfl
theorem dot_take : ∀ (xs ys : List Int) (n : Nat), xs.length ≤ n → dot xs (ys.take n) = dot xs ys
  | [], ys, n, _ => by unfold dot; simp
  | x :: xs, [], n, _ => by unfold dot; simp
  | x :: xs, y :: ys, 0, h => by simp at h
  | x :: xs, y :: ys, n + 1, h => by
    have ih := dot_take xs ys n (by simpa using h)
    unfold dot at *
    simp only [List.take_succ_cons, List.zipWith_cons_cons, List.sum_cons]
    rw [ih]
theorem dot_comm : ∀ (xs ys : List Int), dot xs ys = dot ys xs
  | [], ys => by unfold dot; simp
  | x :: xs, [] => by unfold dot; simp
  | x :: xs, y :: ys => by
    have ih := dot_comm xs ys
    unfold dot at *
    simp only [List.zipWith_cons_cons, List.sum_cons]
    rw [ih, Int.mul_comm]
theorem dot_snoc : ∀ (xs ys : List Int) (a b : Int), xs.length = ys.length → dot (xs ++ [a]) (ys ++ [b]) = dot xs ys + a * b
  | [], [], a, b, _ => by unfold dot; simp
  | [], y :: ys, a, b, h => by simp at h
  | x :: xs, [], a, b, h => by simp at h
  | x :: xs, y :: ys, a, b, h => by
    have ih := dot_snoc xs ys a b (by simpa using h)
    unfold dot at *
    simp only [List.cons_append, List.zipWith_cons_cons, List.sum_cons]
    rw [ih, Int.add_assoc]
theorem dot_self_nonneg : ∀ xs : List Int, 0 ≤ dot xs xs
  | [] => by unfold dot; simp
  | x :: xs => by
    have ih := dot_self_nonneg xs
    have hx : 0 ≤ x * x := by
      rcases Int.le_total 0 x with h | h
      · exact Int.mul_nonneg h h
      · exact Int.mul_nonneg_of_nonpos_of_nonpos h h
    unfold dot at *
    simp only [List.zipWith_cons_cons, List.sum_cons]
    omega
/-- the greatest of some, from 0 on -/
def maxF (ns : List Int) : Int := ns.foldl (fun m n => if n > m then n else m) 0
theorem maxF_snoc (ns : List Int) (n : Int) : maxF (ns ++ [n]) = if n > maxF ns then n else maxF ns := by
  unfold maxF; rw [List.foldl_append]; rfl
theorem maxG : ∀ (ns : List Int) (d : Int), d ≤ ns.foldl (fun m n => if n > m then n else m) d ∧ (∀ n ∈ ns, n ≤ ns.foldl (fun m n => if n > m then n else m) d) ∧ (ns.foldl (fun m n => if n > m then n else m) d = d ∨ ns.foldl (fun m n => if n > m then n else m) d ∈ ns)
  | [], d => ⟨Int.le_refl _, fun _ h => absurd h (by simp), .inl rfl⟩
  | n :: r, d => by
    rw [List.foldl_cons]
    obtain ⟨h1, h2, h3⟩ := maxG r (if n > d then n else d)
    have e : d ≤ (if n > d then n else d) ∧ n ≤ (if n > d then n else d) ∧ ((if n > d then n else d) = d ∨ (if n > d then n else d) = n) := by
      split <;> omega
    refine ⟨by omega, fun x hx => ?_, ?_⟩
    · rcases List.mem_cons.mp hx with z | z
      · rw [z]; omega
      · exact h2 x z
    · rcases h3 with z | z
      · rw [z]
        rcases e.2.2 with q | q
        · exact .inl q
        · exact .inr (by rw [q]; exact List.mem_cons_self)
      · exact .inr (List.mem_cons_of_mem _ z)
theorem maxF_eq {ns : List Int} {m : Int} (h0 : ∀ n ∈ ns, 0 ≤ n) (h : (ns = [] ∧ m = 0) ∨ (m ∈ ns ∧ ∀ b ∈ ns, b ≤ m)) : m = maxF ns := by
  obtain ⟨h1, h2, h3⟩ := maxG ns 0
  rcases h with ⟨rfl, rfl⟩ | ⟨hm, hu⟩
  · rfl
  · have a1 := h2 m hm
    have a2 := h0 m hm
    show m = ns.foldl (fun m n => if n > m then n else m) 0
    rcases h3 with z | z
    · omega
    · have := hu _ z
      omega
end Mw

set_option linter.all false
namespace Mw
/-! ## products turned by the side -/
def turnF (n s : Int) : Int := if s = 1 then n else -n
def gaps (ws : List Int) (rs : List (List Int × Int)) : List Int := rs.map fun r => turnF (dot ws (r.1 ++ [1])) r.2
theorem dot_last : ∀ (xs ws : List Int) (c : Int), ws.length = xs.length → dot (ws ++ [c]) (xs ++ [1]) = dot xs ws + c := fun xs ws c h => by
  rw [dot_snoc ws xs c 1 h, dot_comm ws xs, Int.mul_one]
theorem last_split {ws : List Int} {m : Nat} (h : ws.length = m + 1) : ∃ us c, ws = us ++ [c] ∧ us.length = m := by
  have hne : ws ≠ [] := fun z => by rw [z] at h; simp at h
  refine ⟨ws.dropLast, ws.getLast hne, (List.dropLast_concat_getLast hne).symm, ?_⟩
  rw [List.length_dropLast]; omega
theorem dot_app_left : ∀ (xs us : List Int) (c : Int), us.length = xs.length → dot xs (us ++ [c]) = dot xs us
  | xs, us, c, h => by
    rw [← dot_take xs (us ++ [c]) xs.length (Nat.le_refl _), List.take_left' h]
theorem all_filter : ∀ ns : List Int, ns.all (fun n => decide (0 < n)) = decide ((ns.filter fun n => decide (n ≤ 0)).length = 0)
  | [] => rfl
  | n :: r => by
    have ih := all_filter r
    by_cases h : 0 < n
    · have e : decide (n ≤ 0) = false := decide_eq_false (by omega)
      rw [List.all_cons, decide_eq_true h, Bool.true_and, ih, List.filter_cons, e]; rfl
    · have e : decide (n ≤ 0) = true := decide_eq_true (by omega)
      rw [List.all_cons, decide_eq_false h, Bool.false_and, List.filter_cons, e]
      simp
theorem min_uniq {ns : List Int} {a b : Int} (h1 : a ∈ ns) (h2 : ∀ x ∈ ns, a ≤ x) (h3 : b ∈ ns) (h4 : ∀ x ∈ ns, b ≤ x) : a = b := by
  have := h2 b h3
  have := h4 a h1
  omega
end Mw

set_option Elab.async false
set_option linter.all false
set_option maxRecDepth 100000
set_option maxHeartbeats 4000000
namespace Mw
open PySem L2
/-! ## promises of defs that several laws have -/
/-- the product of two lists or tuples of ints -/
def spProd (K : PySem.W.Frag) : Sp := fun vs H Q _ => ∃ (a b : Addr) (b1 b2 : Bool) (xs ys : List Int), vs = [.ref a, .ref b] ∧ SqB K b1 H a (xs.map V.int) ∧ SqB K b2 H b (ys.map V.int) ∧ xs.length ≤ 1000 ∧ (∀ x ∈ xs, Bits 1000 x) ∧ (∀ y ∈ ys, Bits 1000 y) ∧
  ∀ H', Same H H' → Q (.int (dot xs ys)) H'
/-- a lifted point -/
def spLift (K : PySem.W.Frag) : Sp := fun vs H Q _ => ∃ (a : Addr) (xs : List Int), vs = [.ref a] ∧ SqT K H a (xs.map V.int) ∧ xs ≠ [] ∧ xs.length ≤ 900 ∧ ∀ r H', Same H H' → H r = none → H' r = some (.tup ((xs ++ [1]).map V.int)) → Q (.ref r) H'
def spTold (K : PySem.W.Frag) : Sp := fun vs H Q _ => ∃ (a b : Addr) (b1 : Bool) (ws xs : List Int), vs = [.ref a, .ref b] ∧ SqB K b1 H a (ws.map V.int) ∧ SqT K H b (xs.map V.int) ∧ xs ≠ [] ∧ xs.length ≤ 900 ∧ ws.length ≤ 1000 ∧ (∀ x ∈ ws, Bits 1000 x) ∧ (∀ y ∈ xs, Bits 1000 y) ∧
  ∀ H', Same H H' → Q (.int (dot ws (xs ++ [1]))) H'
def spSquare (K : PySem.W.Frag) : Sp := fun vs H Q _ => ∃ (a : Addr) (b1 : Bool) (xs : List Int), vs = [.ref a] ∧ SqB K b1 H a (xs.map V.int) ∧ xs.length ≤ 1000 ∧ (∀ x ∈ xs, Bits 1000 x) ∧ ∀ H', Same H H' → Q (.int (dot xs xs)) H'
/-- the script's number at a place, 0 beyond -/
def cellF (ns : List Int) (k : Nat) : Int := ns.getD k 0
theorem at_cell {ns : List Int} {k : Int} (h0 : 0 ≤ k) (h : k < (ns.length : Int)) : atI (ns.map V.int) k = some (.int (cellF ns k.toNat)) := by
  have e : k = (k.toNat : Int) := by omega
  have hk : k.toNat < ns.length := by omega
  rw [e, Int.toNat_natCast]
  refine atI_nat ?_
  rw [List.getElem?_map, List.getElem?_eq_getElem hk]
  unfold cellF
  simp [hk]
theorem cell_out {ns : List Int} {k : Int} (h0 : 0 ≤ k) (h : ¬ k < (ns.length : Int)) : cellF ns k.toNat = 0 := by
  unfold cellF
  rw [List.getD_eq_getElem?_getD, List.getElem?_eq_none (by omega)]; rfl
def spCell (K : PySem.W.Frag) : Sp := fun vs H Q _ => ∃ (a : Addr) (ns : List Int) (k : Int), vs = [.ref a, .int k] ∧ SqL K H a (ns.map V.int) ∧ 0 ≤ k ∧ Q (.int (cellF ns k.toNat)) H
def spCoord : Sp := fun vs H Q _ => ∃ (d : Int) (f : Bool), vs = [.int d, .bl f] ∧ ∀ c : Int, -1000 ≤ c → c ≤ 1000 → Q (.int c) H
def spIs : Sp := fun vs H Q _ => ∃ n : Int, vs = [.int n, .int n] ∧ Q (.bl true) H
theorem bits_of {n : Nat} {x : Int} (h : x.natAbs < 2 ^ n) : Bits n x := h
theorem bits_low {x : Int} {n : Nat} (h1 : -1000 ≤ x) (h2 : x ≤ 1000) (hn : 10 ≤ n) : Bits n x := by
  refine Bits.mono (n := 10) ?_ hn
  show x.natAbs < 2 ^ 10
  have e : (2 : Nat) ^ 10 = 1024 := by decide
  omega
theorem bits_snoc {n : Nat} {xs : List Int} (hn : 10 ≤ n) (h : ∀ x ∈ xs, Bits n x) : ∀ x ∈ xs ++ [1], Bits n x := fun x hx => by
  rcases List.mem_append.mp hx with z | z
  · exact h x z
  · rw [List.mem_singleton.mp z]; exact bits_low (by decide) (by decide) hn
/-- rows: addresses of tuples (point, side) -/
def RowsAt (K : PySem.W.Frag) (H : Hp) (as : List Addr) (rs : List (List Int × Int)) : Prop := Paired (fun a r => ∃ p, SqT K H a [.ref p, .int r.2] ∧ SqT K H p (r.1.map V.int)) as rs
theorem RowsAt.same {K : PySem.W.Frag} {H H' : Hp} {as : List Addr} {rs : List (List Int × Int)} (e : Same H H') (h : RowsAt K H as rs) : RowsAt K H' as rs := Paired.mapP h fun _ _ ⟨p, q1, q2⟩ => ⟨p, e.seqT q1, e.seqT q2⟩
/-- rows as the document wants them, of m coordinates -/
structure RowsOk (m : Nat) (rs : List (List Int × Int)) : Prop where
  pos : 0 < m
  few : m ≤ 4
  len : rs.length ≤ 200
  cnt : ∀ r ∈ rs, r.1.length = m
  low : ∀ r ∈ rs, ∀ x ∈ r.1, -1000 ≤ x ∧ x ≤ 1000
  sid : ∀ r ∈ rs, r.2 = 0 ∨ r.2 = 1
theorem RowsOk.bits {m : Nat} {rs : List (List Int × Int)} (h : RowsOk m rs) {r : List Int × Int} (hr : r ∈ rs) {n : Nat} (hn : 10 ≤ n) : ∀ x ∈ r.1, Bits n x := fun x hx => bits_low (h.low r hr x hx).1 (h.low r hr x hx).2 hn
theorem RowsOk.ne {m : Nat} {rs : List (List Int × Int)} (h : RowsOk m rs) {r : List Int × Int} (hr : r ∈ rs) : r.1 ≠ [] := fun z => by
  have := h.cnt r hr
  have := h.pos
  rw [z] at *
  simp at *
  omega
def lift (p : List Int) : List Int := p ++ [1]
def farF (rs : List (List Int × Int)) : Int := maxF (rs.map fun r => dot (r.1 ++ [1]) (r.1 ++ [1]))
def spFar (K : PySem.W.Frag) : Sp := fun vs H Q _ => ∃ (a : Addr) (as : List Addr) (m : Nat) (rs : List (List Int × Int)), vs = [.ref a] ∧ SqL K H a (as.map V.ref) ∧ RowsAt K H as rs ∧ RowsOk m rs ∧ ∀ H', Same H H' → Q (.int (farF rs)) H'
/-- _law_any_rows: some rows -/
def spAnyRows (K : PySem.W.Frag) : Sp := fun vs H Q _ => ∃ (a : Addr) (ns : List Int) (most : Int), vs = [.ref a, .int most] ∧ SqL K H a (ns.map V.int) ∧ ns.length ≤ 63 ∧ 0 ≤ most ∧ most ≤ 60 ∧
  ∀ r H' (as : List Addr) (m : Nat) (rs : List (List Int × Int)), Same H H' → H r = none → H' r = some (.lst (as.map V.ref)) → RowsAt K H' as rs → RowsOk m rs → rs.length ≤ most.toNat → m = (1 + cellF ns 0 % 4).toNat → Q (.ref r) H'
/-- _law_sum -/
def spSum (K : PySem.W.Frag) : Sp := fun vs H Q _ => ∃ (a b : Addr) (b1 b2 : Bool) (xs ys : List Int), vs = [.ref a, .ref b] ∧ SqB K b1 H a (xs.map V.int) ∧ SqB K b2 H b (ys.map V.int) ∧ xs.length ≤ ys.length ∧ xs.length ≤ 1000 ∧ (∀ x ∈ xs, Bits 1000 x) ∧ (∀ y ∈ ys, Bits 1000 y) ∧ Q (.int (dot xs ys)) H
theorem at_k {xs : List V} {k : Nat} {z : Int} {v : V} (h : xs[k]? = some v) (hz : z = (k : Int)) : atI xs z = some v := by
  subst hz; exact atI_nat h
/-- weights that may be handed in here -/
structure WOk (ws : List Int) : Prop where
  len : ws.length ≤ 1000
  bits : ∀ x ∈ ws, Bits 1000 x
def spTurned : Sp := fun vs H Q _ => ∃ n s : Int, vs = [.int n, .int s] ∧ Q (.int (turnF n s)) H
def RW (K : PySem.W.Frag) (vs : List V) (H : Hp) (m : Nat) (rs : List (List Int × Int)) (ws : List Int) : Prop := ∃ (a b : Addr) (as : List Addr), vs = [.ref a, .ref b] ∧ SqL K H a (as.map V.ref) ∧ RowsAt K H as rs ∧ RowsOk m rs ∧ SqT K H b (ws.map V.int) ∧ WOk ws
def spTurnedAll (K : PySem.W.Frag) : Sp := fun vs H Q _ => ∃ m rs ws, RW K vs H m rs ws ∧ ∀ r H', Same H H' → H r = none → H' r = some (.lst ((gaps ws rs).map V.int)) → Q (.ref r) H'
def spParted (K : PySem.W.Frag) : Sp := fun vs H Q _ => ∃ m rs ws, RW K vs H m rs ws ∧ ∀ H', Same H H' → Q (.bl ((gaps ws rs).all fun n => decide (0 < n))) H'
def spGap (K : PySem.W.Frag) : Sp := fun vs H Q _ => ∃ m rs ws, RW K vs H m rs ws ∧ rs ≠ [] ∧ ∀ z H', Same H H' → z ∈ gaps ws rs → (∀ b ∈ gaps ws rs, z ≤ b) → Q (.int z) H'
theorem gaps_length (ws : List Int) (rs : List (List Int × Int)) : (gaps ws rs).length = rs.length := by unfold gaps; rw [List.length_map]
theorem paired_append {α β : Type} {R : α → β → Prop} : ∀ {as as' : List α} {bs bs' : List β}, Paired R as bs → Paired R as' bs' → Paired R (as ++ as') (bs ++ bs')
  | _, _, _, _, .nil, h => h
  | _, _, _, _, .cons r t, h => .cons r (paired_append t h)
theorem paired_take {α β : Type} {R : α → β → Prop} : ∀ {as : List α} {bs : List β} (n : Nat), Paired R as bs → Paired R (as.take n) (bs.take n)
  | _, _, 0, _ => by rw [List.take_zero, List.take_zero]; exact .nil
  | _, _, _ + 1, .nil => .nil
  | _, _, n + 1, .cons r t => .cons r (paired_take n t)
theorem paired_drop {α β : Type} {R : α → β → Prop} : ∀ {as : List α} {bs : List β} (n : Nat), Paired R as bs → Paired R (as.drop n) (bs.drop n)
  | _, _, 0, h => h
  | _, _, _ + 1, .nil => .nil
  | _, _, n + 1, .cons _ t => paired_drop n t
/-- a cut of any list -/
def cutL {α : Type} (xs : List α) (lo hi : Option Int) : List α := (xs.drop (HT.sIx xs.length 0 lo)).take (HT.sIx xs.length xs.length hi - HT.sIx xs.length 0 lo)
theorem cutL_map {α : Type} (g : α → V) (xs : List α) (lo hi : Option Int) : cutV (xs.map g) lo hi = (cutL xs lo hi).map g := by
  unfold cutV cutL
  rw [List.length_map, List.map_take, List.map_drop]
theorem cutL_length {α : Type} (xs : List α) (lo hi : Option Int) : (cutL xs lo hi).length ≤ xs.length := by
  unfold cutL
  rw [List.length_take, List.length_drop]
  omega
theorem cutL_mem {α : Type} {xs : List α} {lo hi : Option Int} {x : α} (h : x ∈ cutL xs lo hi) : x ∈ xs := List.mem_of_mem_drop (List.mem_of_mem_take h)
theorem RowsAt.cut {K : PySem.W.Frag} {H : Hp} {as : List Addr} {rs : List (List Int × Int)} (h : RowsAt K H as rs) (lo hi : Option Int) : RowsAt K H (cutL as lo hi) (cutL rs lo hi) := by
  have e : as.length = rs.length := Paired.length h
  unfold cutL
  rw [e]
  exact paired_take _ (paired_drop _ h)
theorem RowsOk.sub {m : Nat} {rs rs' : List (List Int × Int)} (h : RowsOk m rs) (hl : rs'.length ≤ 200) (hs : ∀ r ∈ rs', r ∈ rs) : RowsOk m rs' :=
  ⟨h.pos, h.few, hl, fun r hr => h.cnt r (hs r hr), fun r hr => h.low r (hs r hr), fun r hr => h.sid r (hs r hr)⟩
theorem RowsOk.app {m : Nat} {rs rs' : List (List Int × Int)} (h : RowsOk m rs) (h' : RowsOk m rs') (hl : rs.length + rs'.length ≤ 200) : RowsOk m (rs ++ rs') := by
  refine ⟨h.pos, h.few, by rw [List.length_append]; exact hl, fun r hr => ?_, fun r hr => ?_, fun r hr => ?_⟩ <;> rcases List.mem_append.mp hr with z | z
  · exact h.cnt r z
  · exact h'.cnt r z
  · exact h.low r z
  · exact h'.low r z
  · exact h.sid r z
  · exact h'.sid r z
theorem RowsOk.nil {m : Nat} (h0 : 0 < m) (h1 : m ≤ 4) : RowsOk m [] := ⟨h0, h1, by decide, fun _ h => absurd h (by simp), fun _ h => absurd h (by simp), fun _ h => absurd h (by simp)⟩
theorem wk_keep {σ σ2 : St} (h : σ2.length = σ.length) (k : ∀ (i : Nat) v, σ[i]? = some (some v) → σ2[i]? = some (some v)) : Wk σ σ2 := ⟨h, k⟩
end Mw

set_option Elab.async false
set_option linter.all false
set_option maxRecDepth 100000
set_option maxHeartbeats 4000000
namespace Mw
open PySem L2
/-! ## promises of the defs that draw by tops -/
def spMixed2 (K : PySem.W.Frag) : Sp := fun vs H Q _ => ∃ (a : Addr) (ns : List Int) (k : Int), vs = [.ref a, .int k] ∧ SqL K H a (ns.map V.int) ∧ 0 ≤ k ∧ k ≤ 1000000 ∧ ∀ z : Int, 0 ≤ z → Q (.int z) H
def Below (d t : Int) : Prop := 0 ≤ d ∧ d < t
structure TopsOk (ts : List Int) : Prop where
  len : ts.length ≤ 100000
  pos : ∀ t ∈ ts, 0 < t
  low : ∀ t ∈ ts, t < 18446744073709551616
def spDrawn (K : PySem.W.Frag) : Sp := fun vs H Q _ => ∃ (a b : Addr) (ns ts : List Int), vs = [.ref a, .ref b] ∧ SqL K H a (ns.map V.int) ∧ SqL K H b (ts.map V.int) ∧ TopsOk ts ∧
  ∀ r H' (ds : List Int), Same H H' → H r = none → H' r = some (.lst (ds.map V.int)) → Paired Below ds ts → Q (.ref r) H'
/-- points: addresses of tuples of ints -/
def PtsAt (K : PySem.W.Frag) (H : Hp) (as : List Addr) (ps : List (List Int)) : Prop := Paired (fun a p => SqT K H a (p.map V.int)) as ps
theorem PtsAt.same {K : PySem.W.Frag} {H H' : Hp} {as : List Addr} {ps : List (List Int)} (e : Same H H') (h : PtsAt K H as ps) : PtsAt K H' as ps := Paired.mapP h fun _ _ q => e.seqT q
/-- _law_points: so many points, coordinates as drawn, less the reach -/
def spPoints (K : PySem.W.Frag) : Sp := fun vs H Q _ => ∃ (a : Addr) (ds : List Int) (m g n : Int), vs = [.ref a, .int m, .int g, .int n] ∧ SqL K H a (ds.map V.int) ∧ 0 < m ∧ m ≤ 12 ∧ 0 ≤ n ∧ n ≤ 1000 ∧ n * m ≤ ds.length ∧ (∀ (j : Nat) d, (j : Int) < n * m → ds[j]? = some d → 0 ≤ d ∧ d ≤ 2 * g) ∧
  ∀ r H' (as : List Addr) (ps : List (List Int)), Same H H' → H r = none → H' r = some (.lst (as.map V.ref)) → PtsAt K H' as ps → ps.length = n.toNat → (∀ p ∈ ps, p.length = m.toNat) → (∀ p ∈ ps, ∀ x ∈ p, -g ≤ x ∧ x ≤ g) → Q (.ref r) H'
/-- _law_product: of weights (a list or a tuple) with a point -/
def spLProd (K : PySem.W.Frag) : Sp := fun vs H Q _ => ∃ (a b : Addr) (b1 b2 : Bool) (ws xs : List Int), vs = [.ref a, .ref b] ∧ SqB K b1 H a (ws.map V.int) ∧ SqB K b2 H b (xs.map V.int) ∧ xs.length ≤ 900 ∧ ws.length ≤ 1000 ∧ (∀ x ∈ ws, Bits 1000 x) ∧ (∀ y ∈ xs, Bits 1000 y) ∧
  ∀ H', Same H H' → Q (.int (dot ws (xs ++ [1]))) H'
/-- _law_are: a tuple of ints is the list or tuple -/
def spAre (K : PySem.W.Frag) : Sp := fun vs H Q _ => ∃ (a b : Addr) (b1 : Bool) (xs : List Int), vs = [.ref a, .ref b] ∧ H a = some (.tup (xs.map V.int)) ∧ SqB K b1 H b (xs.map V.int) ∧ ∀ H', Same H H' → Q (.bl true) H'
/-- what weights guess by their product -/
def guessV (z : Int) : V := if z = 0 then .non else .int (if 0 < z then 1 else 0)
def spGuess : Sp := fun vs H Q _ => ∃ z : Int, vs = [.int z] ∧ Q (guessV z) H
/-- _law_told: a side or None, twice the same -/
def spToldV : Sp := fun vs H Q _ => ∃ v : V, vs = [v, v] ∧ (v = .non ∨ ∃ n : Int, v = .int n) ∧ Q (.bl true) H
theorem at_mem {ds : List Int} {z : Int} (h0 : 0 ≤ z) (h1 : z < (ds.length : Int)) : ∃ d, d ∈ ds ∧ atI (ds.map V.int) z = some (.int d) := at_list (k := z.toNat) (by omega) (by omega)
theorem cutI_from (ns : List Int) {lo : Int} (h0 : 0 ≤ lo) (h1 : lo ≤ (ns.length : Int)) : cutI ns (some lo) none = ns.drop lo.toNat := by
  unfold cutI
  have e1 : HT.sIx ns.length 0 (some lo) = lo.toNat := by
    show (if lo < 0 then (lo + (ns.length : Int)).toNat else min lo.toNat ns.length) = lo.toNat
    rw [if_neg (by omega)]; omega
  rw [e1]
  show (ns.drop lo.toNat).take (ns.length - lo.toNat) = _
  rw [List.take_of_length_le (by rw [List.length_drop]; exact Nat.le_refl _)]
theorem rep_snoc {α : Type} (n : Nat) (x : α) : List.replicate n x ++ [x] = List.replicate (n + 1) x := by rw [List.replicate_succ']
theorem below_rep {ds : List Int} {n : Nat} {t : Int} (h : Paired Below ds (List.replicate n t)) : ds.length = n ∧ ∀ d ∈ ds, 0 ≤ d ∧ d < t := by
  refine ⟨by rw [Paired.length h, List.length_replicate], fun d hd => ?_⟩
  obtain ⟨i, hi⟩ := List.getElem?_of_mem hd
  obtain ⟨u, hu, r⟩ := paired_get h hi
  have := List.mem_of_getElem? hu
  rw [(List.mem_replicate.mp this).2] at r
  exact r
theorem paired_len {α β : Type} {R : α → β → Prop} {as : List α} {bs : List β} (h : Paired R as bs) : as.length = bs.length := Paired.length h
theorem paired_split {α β : Type} {R : α → β → Prop} {as : List α} {bs cs : List β} (h : Paired R as (bs ++ cs)) : Paired R (as.take bs.length) bs ∧ Paired R (as.drop bs.length) cs := by
  have h1 := paired_take bs.length h
  have h2 := paired_drop bs.length h
  rw [List.take_left] at h1
  rw [List.drop_left] at h2
  exact ⟨h1, h2⟩
end Mw

set_option Elab.async false
set_option linter.all false
set_option maxRecDepth 100000
set_option maxHeartbeats 4000000
namespace Mw
open PySem L2
/-! ## heaps in which the objects S have changed -/
def NotIns : HO → Prop
  | .ins _ _ _ => False
  | _ => True
structure Kp (S : List Addr) (H H' : Hp) : Prop where
  old : ∀ b o, H b = some o → NotIns o → H' b = some o
  but : ∀ b o, b ∉ S → H b = some o → H' b = some o
  has : ∀ b, H b ≠ none → H' b ≠ none
section
variable {K : PySem.W.Frag} {S S' : List Addr} {H H' H'' : Hp} {a : Addr} {xs : List V} {b : Bool}
theorem Kp.of (e : Same H H') : Kp S H H' := ⟨fun b o h _ => e b o h, fun b o _ h => e b o h, fun b h => by
  cases hb : H b with
  | none => exact absurd hb h
  | some o => rw [e b o hb]; simp⟩
theorem Kp.refl : Kp S H H := ⟨fun _ _ h _ => h, fun _ _ _ h => h, fun _ h => h⟩
theorem Kp.trans (h1 : Kp S H H') (h2 : Kp S H' H'') : Kp S H H'' := ⟨fun b o h n => h2.old b o (h1.old b o h n) n, fun b o n h => h2.but b o n (h1.but b o n h), fun b h => h2.has b (h1.has b h)⟩
theorem Kp.mono (h : Kp S H H') (m : ∀ x ∈ S, x ∈ S') : Kp S' H H' := ⟨h.old, fun b o n => h.but b o fun z => n (m b z), h.has⟩
theorem Kp.free (h : Kp S H H') (n : H' a = none) : H a = none := by
  cases e : H a with
  | none => rfl
  | some o => exact absurd n (h.has a (by rw [e]; simp))
theorem Kp.lst (h : Kp S H H') (e : H a = some (.lst xs)) : H' a = some (.lst xs) := h.old _ _ e True.intro
theorem Kp.tup (h : Kp S H H') (e : H a = some (.tup xs)) : H' a = some (.tup xs) := h.old _ _ e True.intro
theorem Kp.seq (h : Kp S H H') (e : SqL K H a xs) : SqL K H' a xs := by
  rcases e with (e | ⟨o, e⟩) | e
  · exact .inl (.inl (h.old _ _ e True.intro))
  · exact .inl (.inr ⟨o, h.old _ _ e True.intro⟩)
  · exact .inr e
theorem Kp.seqT (h : Kp S H H') (e : SqT K H a xs) : SqT K H' a xs := by
  rcases e with (e | ⟨o, e⟩) | e
  · exact .inl (.inl (h.old _ _ e True.intro))
  · exact .inl (.inr ⟨o, h.old _ _ e True.intro⟩)
  · exact .inr e
theorem Kp.seqB (h : Kp S H H') (e : SqB K b H a xs) : SqB K b H' a xs := by
  cases b
  · exact h.seq e
  · exact h.seqT e
theorem Kp.pts {as : List Addr} {ps : List (List Int)} (h : Kp S H H') (e : PtsAt K H as ps) : PtsAt K H' as ps := Paired.mapP e fun _ _ q => h.seqT q
theorem Kp.rows {as : List Addr} {rs : List (List Int × Int)} (h : Kp S H H') (e : RowsAt K H as rs) : RowsAt K H' as rs := Paired.mapP e fun _ _ ⟨p, q1, q2⟩ => ⟨p, h.seqT q1, h.seqT q2⟩
/-- an object of one's own is written to -/
theorem Kp.upd_ins {C dx C' dx' : Addr} {fs fs' : List (Str × V)} (h : Kp S H H') (e : H' a = some (.ins C dx fs)) (m : a ∈ S) : Kp S H (upd H' a (.ins C' dx' fs')) := by
  refine ⟨fun b o hb n => ?_, fun b o n hb => ?_, fun b hb => ?_⟩
  · have := h.old b o hb n
    rw [upd_ne (fun z => by rw [z, e] at this; cases this; exact n)]; exact this
  · rw [upd_ne (fun z => n (by rw [z]; exact m))]; exact h.but b o n hb
  · by_cases z : b = a
    · rw [z, upd_same]; simp
    · rw [upd_ne z]; exact h.has b hb
theorem Kp.new {o : HO} (h : Kp S H H') (n : H' a = none) : Kp S H (upd H' a o) := h.trans (Kp.of (Same.new n o))
/-- a list of the walk's own, made behind H, is written to -/
theorem Kp.upd_old {o : HO} (h : Kp S H H') (n : H a = none) : Kp S H (upd H' a o) := by
  refine ⟨fun b u hb m => ?_, fun b u m hb => ?_, fun b hb => ?_⟩
  · rw [upd_ne (ne_of_none hb n)]; exact h.old b u hb m
  · rw [upd_ne (ne_of_none hb n)]; exact h.but b u m hb
  · by_cases z : b = a
    · rw [z, upd_same]; simp
    · rw [upd_ne z]; exact h.has b hb
end
/-! ## hands that tell by one row of weights -/
structure Hnd where
  /-- 0: mends nothing; 1: plain; 2: with a margin -/
  kd : Nat
  mg : Int
  many : Nat
  ws : List Int
  err : Nat
namespace Hnd
def prod (h : Hnd) (p : List Int) : Int := dot h.ws (p ++ [1])
def wrong (h : Hnd) (p : List Int) (s : Int) : Bool := if h.kd = 2 then decide ((2 * s - 1) * h.prod p ≤ h.mg) else decide (guessV (h.prod p) ≠ V.int s)
def mend (ws p : List Int) (s : Int) : List Int := List.zipWith (fun w x => w + (2 * s - 1) * x) ws (p ++ [1])
def step (h : Hnd) (p : List Int) (s : Int) : Hnd := if h.wrong p s = true then { h with ws := if h.kd = 0 then h.ws else mend h.ws p s, err := h.err + 1 } else h
def new (kd : Nat) (mg : Int) (many : Nat) : Hnd := ⟨kd, mg, many, List.replicate (many + 1) 0, 0⟩
structure Ok (h : Hnd) : Prop where
  k3 : h.kd < 3
  pos : 0 < h.many
  few : h.many ≤ 4
  len : h.ws.length = h.many + 1
  low : ∀ w ∈ h.ws, w.natAbs ≤ 1000 * h.err
structure PtOk (h : Hnd) (p : List Int) : Prop where
  len : p.length = h.many
  low : ∀ x ∈ p, -1000 ≤ x ∧ x ≤ 1000
theorem new_ok {kd : Nat} {mg : Int} {many : Nat} (h3 : kd < 3) (h0 : 0 < many) (h4 : many ≤ 4) : Ok (new kd mg many) :=
  ⟨h3, h0, h4, by unfold new; simp, fun w hw => by unfold new at hw; rw [(List.mem_replicate.mp hw).2]; simp⟩
theorem low_snoc {p : List Int} (h : ∀ x ∈ p, -1000 ≤ x ∧ x ≤ 1000) : ∀ x ∈ p ++ [1], -1000 ≤ x ∧ x ≤ 1000 := fun x hx => by
  rcases List.mem_append.mp hx with z | z
  · exact h x z
  · rw [List.mem_singleton.mp z]; decide
theorem mend_mem {s : Int} (hs : s = 0 ∨ s = 1) {n : Nat} : ∀ {ws xs : List Int}, (∀ w ∈ ws, w.natAbs ≤ n) → (∀ x ∈ xs, -1000 ≤ x ∧ x ≤ 1000) → ∀ z ∈ List.zipWith (fun w x => w + (2 * s - 1) * x) ws xs, z.natAbs ≤ n + 1000
  | [], _, _, _, z, hz => by simp at hz
  | _ :: _, [], _, _, z, hz => by simp at hz
  | w :: ws, x :: xs, h1, h2, z, hz => by
    rw [List.zipWith_cons_cons] at hz
    rcases List.mem_cons.mp hz with e | e
    · have a1 := h1 w (List.mem_cons_self ..)
      have a2 := h2 x (List.mem_cons_self ..)
      rcases hs with rfl | rfl
      · have : (2 * 0 - 1 : Int) * x = -x := by omega
        rw [e, this]; omega
      · have : (2 * 1 - 1 : Int) * x = x := by omega
        rw [e, this]; omega
    · exact mend_mem hs (fun w hw => h1 w (List.mem_cons_of_mem _ hw)) (fun x hx => h2 x (List.mem_cons_of_mem _ hx)) z e
theorem mend_len {ws p : List Int} {s : Int} (h : ws.length = p.length + 1) : (mend ws p s).length = p.length + 1 := by
  unfold mend
  rw [List.length_zipWith, List.length_append, h]
  exact Nat.min_self _
theorem step_many (h : Hnd) (p : List Int) (s : Int) : (h.step p s).many = h.many := by unfold step; split <;> rfl
theorem step_kd (h : Hnd) (p : List Int) (s : Int) : (h.step p s).kd = h.kd := by unfold step; split <;> rfl
theorem step_mg (h : Hnd) (p : List Int) (s : Int) : (h.step p s).mg = h.mg := by unfold step; split <;> rfl
theorem step_err (h : Hnd) (p : List Int) (s : Int) : (h.step p s).err = h.err + (if h.wrong p s = true then 1 else 0) := by unfold step; split <;> rfl
theorem Ok.step {h : Hnd} {p : List Int} {s : Int} (o : Ok h) (q : PtOk h p) (hs : s = 0 ∨ s = 1) : Ok (h.step p s) := by
  unfold Hnd.step
  split
  · refine ⟨o.k3, o.pos, o.few, ?_, fun w hw => ?_⟩
    · show (if h.kd = 0 then h.ws else mend h.ws p s).length = _
      split
      · exact o.len
      · rw [mend_len (by rw [o.len, q.len]), q.len]
    · show w.natAbs ≤ 1000 * (h.err + 1)
      have hw' : w ∈ (if h.kd = 0 then h.ws else mend h.ws p s) := hw
      split at hw'
      · have := o.low w hw'; omega
      · have := mend_mem hs o.low (low_snoc q.low) w hw'; omega
  · exact o
end Hnd
/-- hands as a program keeps them -/
structure HandI where
  At : Hp → Addr → Hnd → Prop
  Kd : Addr → Prop
  ins : ∀ {H a h}, At H a h → ∃ C dx fs, H a = some (.ins C dx fs) ∧ Kd C ∧ fs.lookup ("tells" : Str) = none ∧ fs.lookup ("put" : Str) = none ∧ fs.lookup ("weights" : Str) = none ∧ fs.lookup ("mistakes" : Str) = none
  keep : ∀ {S H H' a h}, At H a h → Kp S H H' → a ∉ S → At H' a h
section
variable (K : PySem.W.Frag) (I : HandI) (np ns : Addr)
/-- C(many), C(many, margin) -/
def spNew (kd : Nat) : Sp := fun vs H Q _ => ∃ (m : Nat) (g : Int), vs = (if kd = 2 then [V.int m, .int g] else [V.int m]) ∧ 0 < m ∧ m ≤ 4 ∧ ∀ r H', Same H H' → H r = none → I.At H' r (Hnd.new kd g m) → Q (.ref r) H'
/-- many mistakes that are still small for Python's numbers -/
abbrev errTop : Nat := 1000000
def spTells : Sp := fun vs H Q E => ∃ (a p : Addr) (h : Hnd) (xs : List Int), vs = [.ref a, .ref p] ∧ I.At H a h ∧ h.Ok ∧ h.err ≤ errTop ∧ SqT K H p (xs.map V.int) ∧ xs.length ≤ 900 ∧
  (xs.length ≠ h.many → ∀ H', Same H H' → E (.ref np) none H') ∧ (xs.length = h.many → h.PtOk xs ∧ ∀ H', Same H H' → Q (guessV (h.prod xs)) H')
def spPut : Sp := fun vs H Q E => ∃ (a p : Addr) (h : Hnd) (xs : List Int) (s : Int), vs = [.ref a, .ref p, .int s] ∧ I.At H a h ∧ h.Ok ∧ h.err ≤ errTop ∧ SqT K H p (xs.map V.int) ∧ xs.length ≤ 900 ∧
  (xs.length ≠ h.many → ∀ H', Same H H' → E (.ref np) none H') ∧ (xs.length = h.many → ¬ (s = 0 ∨ s = 1) → Bits 1900 s ∧ ∀ H', Same H H' → E (.ref ns) none H') ∧
  (xs.length = h.many → (s = 0 ∨ s = 1) → h.PtOk xs ∧ ∀ H', Kp [a] H H' → I.At H' a (h.step xs s) → Q (.bl (h.wrong xs s)) H')
def spWts : Sp := fun vs H Q _ => ∃ (a : Addr) (h : Hnd), vs = [.ref a] ∧ I.At H a h ∧ ∀ r H', Same H H' → H' r = some (.tup (h.ws.map V.int)) → Q (.ref r) H'
def spErr : Sp := fun vs H Q _ => ∃ (a : Addr) (h : Hnd), vs = [.ref a] ∧ I.At H a h ∧ ∀ H', Same H H' → Q (.int h.err) H'
end
theorem spNew_mono {I : HandI} {kd : Nat} : SpMono (spNew I kd) := fun vs H Q Q' E m ⟨n, g, e, h0, h1, q⟩ => ⟨n, g, e, h0, h1, fun r H' s n2 w => m _ _ (q r H' s n2 w)⟩
end Mw
namespace Mw
open PySem L2
theorem iteND {c A B : Prop} [Decidable c] (h1 : ¬ c → A) (h2 : c → B) : if (!decide c) = true then A else B := by
  by_cases h : c
  · rw [decide_eq_true h]; exact h2 h
  · rw [decide_eq_false h]; exact h1 h
end Mw
namespace Mw
open PySem L2
theorem iteB {b : Bool} {A B : Prop} (h1 : b = true → A) (h2 : b = false → B) : if b = true then A else B := by
  cases b
  · rw [if_neg (by simp)]; exact h2 rfl
  · rw [if_pos rfl]; exact h1 rfl
theorem zipWith_get {α β γ : Type} {f : α → β → γ} {xs : List α} {ys : List β} {i : Nat} {x : α} {y : β} (h1 : xs[i]? = some x) (h2 : ys[i]? = some y) : (List.zipWith f xs ys)[i]? = some (f x y) := by
  rw [List.getElem?_zipWith, h1, h2]
end Mw
namespace Mw
open PySem L2
theorem Hnd.bits {h : Hnd} (o : h.Ok) (e : h.err ≤ errTop) : ∀ w ∈ h.ws, Bits 1000 w := fun w hw => by
  have := o.low w hw
  refine Bits.mono (n := 40) ?_ (by decide)
  show w.natAbs < 2 ^ 40
  have e2 : (2 : Nat) ^ 40 = 1099511627776 := by decide
  have e3 : errTop = 1000000 := rfl
  omega
theorem Hnd.ptbits {h : Hnd} {xs : List Int} (q : h.PtOk xs) : ∀ x ∈ xs, Bits 1000 x := fun x hx => bits_low (q.low x hx).1 (q.low x hx).2 (by decide)
theorem dot_abs {A B : Nat} : ∀ {ws xs : List Int}, (∀ w ∈ ws, w.natAbs ≤ A) → (∀ x ∈ xs, x.natAbs ≤ B) → (dot ws xs).natAbs ≤ ws.length * (A * B)
  | [], _, _, _ => by simp [dot]
  | _ :: _, [], _, _ => by simp [dot]
  | w :: ws, x :: xs, h1, h2 => by
    have ih := dot_abs (ws := ws) (xs := xs) (fun w hw => h1 w (List.mem_cons_of_mem _ hw)) (fun x hx => h2 x (List.mem_cons_of_mem _ hx))
    have a1 := h1 w (List.mem_cons_self ..)
    have a2 := h2 x (List.mem_cons_self ..)
    have e : dot (w :: ws) (x :: xs) = w * x + dot ws xs := by unfold dot; rw [List.zipWith_cons_cons, List.sum_cons]
    have m : (w * x).natAbs ≤ A * B := by rw [Int.natAbs_mul]; exact Nat.mul_le_mul a1 a2
    rw [e, List.length_cons, Nat.add_mul, Nat.one_mul]
    have t := Int.natAbs_add_le (w * x) (dot ws xs)
    omega
theorem Hnd.prod_low {h : Hnd} {xs : List Int} (o : h.Ok) (e : h.err ≤ errTop) (q : h.PtOk xs) : -18446744073709551616 < h.prod xs ∧ h.prod xs < 18446744073709551616 := by
  have b := dot_abs (A := 1000 * h.err) (B := 1000) (ws := h.ws) (xs := xs ++ [1]) o.low (fun x hx => by have := Hnd.low_snoc q.low x hx; omega)
  have l := o.len
  have f := o.few
  have e3 : errTop = 1000000 := rfl
  have b2 : h.ws.length * (1000 * h.err * 1000) ≤ 5 * (1000 * 1000000 * 1000) := Nat.mul_le_mul (by omega) (by omega)
  have b3 : (h.prod xs).natAbs ≤ 5 * (1000 * 1000000 * 1000) := Nat.le_trans b b2
  omega
end Mw
namespace Mw
open PySem L2
theorem putF_len {f : Str} {y : V} : ∀ {fs : List (Str × V)} {v : V}, fs.lookup f = some v → (putF f y fs).length = fs.length
  | [], v, h => by simp at h
  | (g, x) :: r, v, h => by
    unfold putF
    by_cases e : g = f
    · rw [if_pos e]; rfl
    · rw [if_neg e, List.length_cons, List.length_cons]
      have e2 : (f == g) = false := by
        cases z : (f == g)
        · rfl
        · exact absurd (beq_iff_eq.mp z).symm e
      simp only [List.lookup, e2] at h
      rw [putF_len h]
end Mw

set_option Elab.async false
set_option linter.all false
set_option maxRecDepth 100000
set_option maxHeartbeats 4000000
namespace L2
open PySem PySem.Spec PyProof.Rows
/-! ## M22. list comprehensions whose elements are told by a relation -/
/-- all but the object at D are as they were -/
def OffD (D : Addr) (H H' : Hp) : Prop := ∀ b o, b ≠ D → H b = some o → H' b = some o
theorem OffD.of {D : Addr} {H H' : Hp} (s : Same H H') : OffD D H H' := fun b o _ h => s b o h
theorem OffD.upd {D : Addr} {H : Hp} {o : HO} : OffD D H (upd H D o) := fun b u n h => by rw [upd_ne n]; exact h
section
variable {K : PySem.W.Frag} {fr : List (Option Nat)} {g : TG} {te : TE} {D : Addr} {σ : St} {H1 : Hp} {Q : VK}
theorem snoc_get {ys : List V} {z : V} {P : Nat → V → Prop} (h : ∀ (j : Nat) y, ys[j]? = some y → P j y) (hz : P ys.length z) : ∀ (j : Nat) y, (ys ++ [z])[j]? = some y → P j y := fun j y e => by
  by_cases hj : j < ys.length
  · rw [List.getElem?_append_left hj] at e; exact h j y e
  · have h2 : j = ys.length := by
      have := (List.getElem?_eq_some_iff.mp e).1
      rw [List.length_append] at this
      simp at this
      omega
    subst h2
    rw [List.getElem?_append_right (Nat.le_refl _), Nat.sub_self] at e
    have : z = y := by simpa using e
    rw [← this]; exact hz
theorem comp_list_rel {a : Addr} {xs : List V} (Rl : Hp → Nat → V → Prop) (mono : ∀ H H' i y, OffD D H H' → Rl H i y → Rl H' i y) (hq : SqL K H1 a xs) (hn : xs.length ≤ sizeLine) (hD : H1 D = none)
    (hs : ∀ (i : Nat) x H (R : VK), xs[i]? = some x → Same H1 H → H D ≠ none → (∀ y H', Same H H' → Rl H' i y → R y H') → g x (carry fr σ) H fun σ2 H2 => Wk (carry fr σ) σ2 ∧ te σ2 H2 R)
    (q : ∀ ys H', Same H1 H' → H' D = some (.lst ys) → ys.length = xs.length → (∀ (j : Nat) y, ys[j]? = some y → Rl H' j y) → Q (.ref D) H') : tTurns fr g tYes te D (Itl K a) σ H1 Q := by
  refine comp_list (xs := xs) (fun i ys H => Same H1 H ∧ H D = some (.lst ys) ∧ ys.length = i ∧ ∀ (j : Nat) y, ys[j]? = some y → Rl H j y) ⟨Same.new hD _, upd_same, rfl, fun j y e => by simp at e⟩
    (fun i ys H hi ⟨_, e, p, _⟩ => ⟨e, by omega⟩) (fun i ys H hi ⟨e, _, _⟩ => e.seq hq) hn ?_ (fun ys H ⟨e1, e2, e3, e4⟩ => q ys H e1 e2 e3 e4)
  rintro i x ys H hx ⟨e1, e2, e3, e4⟩
  refine hs i x H _ hx e1 (by rw [e2]; simp) (fun y H' s r => ⟨s _ _ e2, (e1.trans s).upd_old hD, upd_same, by rw [List.length_append, e3]; rfl, ?_⟩)
  exact snoc_get (fun j u e => mono _ _ _ _ OffD.upd (mono _ _ _ _ (OffD.of s) (e4 j u e))) (by rw [e3]; exact mono _ _ _ _ OffD.upd r)
theorem comp_tup_rel {a : Addr} {xs : List V} (Rl : Hp → Nat → V → Prop) (mono : ∀ H H' i y, OffD D H H' → Rl H i y → Rl H' i y) (hq : SqT K H1 a xs) (hn : xs.length ≤ sizeLine) (hD : H1 D = none)
    (hs : ∀ (i : Nat) x H (R : VK), xs[i]? = some x → Same H1 H → H D ≠ none → (∀ y H', Same H H' → Rl H' i y → R y H') → g x (carry fr σ) H fun σ2 H2 => Wk (carry fr σ) σ2 ∧ te σ2 H2 R)
    (q : ∀ ys H', Same H1 H' → H' D = some (.lst ys) → ys.length = xs.length → (∀ (j : Nat) y, ys[j]? = some y → Rl H' j y) → Q (.ref D) H') : tTurns fr g tYes te D (Itt K a) σ H1 Q := by
  refine comp_tup (xs := xs) (fun i ys H => Same H1 H ∧ H D = some (.lst ys) ∧ ys.length = i ∧ ∀ (j : Nat) y, ys[j]? = some y → Rl H j y) ⟨Same.new hD _, upd_same, rfl, fun j y e => by simp at e⟩
    (fun i ys H hi ⟨_, e, p, _⟩ => ⟨e, by omega⟩) (fun i ys H hi ⟨e, _, _⟩ => e.seqT hq) hn ?_ (fun ys H ⟨e1, e2, e3, e4⟩ => q ys H e1 e2 e3 e4)
  rintro i x ys H hx ⟨e1, e2, e3, e4⟩
  refine hs i x H _ hx e1 (by rw [e2]; simp) (fun y H' s r => ⟨s _ _ e2, (e1.trans s).upd_old hD, upd_same, by rw [List.length_append, e3]; rfl, ?_⟩)
  exact snoc_get (fun j u e => mono _ _ _ _ OffD.upd (mono _ _ _ _ (OffD.of s) (e4 j u e))) (by rw [e3]; exact mono _ _ _ _ OffD.upd r)
theorem comp_range_rel {lo : Int} {n : Nat} (Rl : Hp → Nat → V → Prop) (mono : ∀ H H' i y, OffD D H H' → Rl H i y → Rl H' i y) (hn : n ≤ sizeLine) (hD : H1 D = none)
    (hs : ∀ (i : Nat) H (R : VK), i < n → Same H1 H → H D ≠ none → (∀ y H', Same H H' → Rl H' i y → R y H') → g (.int (lo + i)) (carry fr σ) H fun σ2 H2 => Wk (carry fr σ) σ2 ∧ te σ2 H2 R)
    (q : ∀ ys H', Same H1 H' → H' D = some (.lst ys) → ys.length = n → (∀ (j : Nat) y, ys[j]? = some y → Rl H' j y) → Q (.ref D) H') : tTurns fr g tYes te D (Itr lo n) σ H1 Q := by
  refine comp_range (n := n) (fun i ys H => Same H1 H ∧ H D = some (.lst ys) ∧ ys.length = i ∧ ∀ (j : Nat) y, ys[j]? = some y → Rl H j y) ⟨Same.new hD _, upd_same, rfl, fun j y e => by simp at e⟩
    (fun i ys H hi ⟨_, e, p, _⟩ => ⟨e, by omega⟩) hn ?_ (fun ys H ⟨e1, e2, e3, e4⟩ => q ys H e1 e2 e3 e4)
  rintro i ys H hi ⟨e1, e2, e3, e4⟩
  refine hs i H _ hi e1 (by rw [e2]; simp) (fun y H' s r => ⟨s _ _ e2, (e1.trans s).upd_old hD, upd_same, by rw [List.length_append, e3]; rfl, ?_⟩)
  exact snoc_get (fun j u e => mono _ _ _ _ OffD.upd (mono _ _ _ _ (OffD.of s) (e4 j u e))) (by rw [e3]; exact mono _ _ _ _ OffD.upd r)
theorem comp_zip_rel {b1 b2 : Bool} {a1 a2 : Addr} {us vs : List V} (Rl : Hp → Nat → V → Prop) (mono : ∀ H H' i y, OffD D H H' → Rl H i y → Rl H' i y) (h1 : SqB K b1 H1 a1 us) (h2 : SqB K b2 H1 a2 vs) (hn : us.length ≤ sizeLine) (hD : H1 D = none)
    (hs : ∀ (i : Nat) x y T H (R : VK), us[i]? = some x → vs[i]? = some y → Same H1 H → H D ≠ none → H T = none → (∀ z H', Same (upd H T (.tup [x, y])) H' → Rl H' i z → R z H') → g (.ref T) (carry fr σ) (upd H T (.tup [x, y])) fun σ2 H2 => Wk (carry fr σ) σ2 ∧ te σ2 H2 R)
    (q : ∀ ys H', Same H1 H' → H' D = some (.lst ys) → ys.length = min us.length vs.length → (∀ (j : Nat) y, ys[j]? = some y → Rl H' j y) → Q (.ref D) H') : tTurns fr g tYes te D (Itz K b1 b2 a1 a2) σ H1 Q := by
  refine comp_zip (us := us) (vs := vs) (fun i ys H => Same H1 H ∧ H D = some (.lst ys) ∧ ys.length = i ∧ ∀ (j : Nat) y, ys[j]? = some y → Rl H j y) ⟨Same.new hD _, upd_same, rfl, fun j y e => by simp at e⟩
    (fun i ys H hi ⟨_, e, p, _⟩ => ⟨e, by omega⟩) (fun i ys H hi ⟨e, _, _⟩ => ⟨e.seqB h1, e.seqB h2⟩) hn ?_ (fun ys H ⟨e1, e2, e3, e4⟩ => q ys H e1 e2 e3 e4)
  rintro i x y T ys H hx hy hT ⟨e1, e2, e3, e4⟩
  refine hs i x y T H _ hx hy e1 (by rw [e2]; simp) hT (fun z H' s r => ⟨s _ _ (by rw [upd_ne (ne_of_none e2 hT)]; exact e2), ((e1.trans (Same.new hT _)).trans s).upd_old hD, upd_same, by rw [List.length_append, e3]; rfl, ?_⟩)
  exact snoc_get (fun j u e => mono _ _ _ _ OffD.upd (mono _ _ _ _ (OffD.of ((Same.new hT _).trans s)) (e4 j u e))) (by rw [e3]; exact mono _ _ _ _ OffD.upd r)
end
theorem paired_map {α β : Type} {f : α → β} : ∀ {xs : List α} {ys : List β}, Paired (fun x y => y = f x) xs ys → ys = xs.map f
  | _, _, .nil => rfl
  | _, _, .cons r t => by rw [r, paired_map t]; rfl
theorem paired_ints {α : Type} {f : α → Int} : ∀ {xs : List α} {ys : List V}, Paired (fun x y => y = V.int (f x)) xs ys → ys = (xs.map f).map V.int
  | _, _, .nil => rfl
  | _, _, .cons r t => by rw [r, paired_ints t]; rfl
theorem paired_left {α β γ : Type} {R : β → γ → Prop} {f : α → β} : ∀ {xs : List α} {ys : List γ}, Paired R (xs.map f) ys → Paired (fun x y => R (f x) y) xs ys
  | [], _, h => by cases h; exact .nil
  | x :: xs, _, h => by
    cases h with
    | cons r t => exact .cons r (paired_left t)
theorem ys_map {α : Type} {g : α → V} {rs : List α} {ys : List V} (hl : ys.length = rs.length) (h : ∀ (j : Nat) y r, ys[j]? = some y → rs[j]? = some r → y = g r) : ys = rs.map g := by
  refine List.ext_getElem? fun j => ?_
  rw [List.getElem?_map]
  by_cases hj : j < ys.length
  · rw [List.getElem?_eq_getElem hj, List.getElem?_eq_getElem (by omega)]
    exact congrArg some (h j _ _ (List.getElem?_eq_getElem hj) (List.getElem?_eq_getElem (by omega)))
  · rw [List.getElem?_eq_none (by omega), List.getElem?_eq_none (by omega)]; rfl
theorem wk1 {σ : St} {v : V} {n : Nat} {w : V} (h : σ[n]? = some (some w)) : Wk (carry [none, some n] σ) [some v, some w] := by
  refine ⟨rfl, fun k u e => ?_⟩
  have e0 : carry [none, some n] σ = [none, some w] := by simp [carry, h]
  rw [e0] at e
  match k, e with
  | 0, e => simp at e
  | 1, e => exact e
  | k + 2, e => simp at e
section
variable {X : Cx}
theorem call_maxL (hc : X.calm = true) : CallR X (.builtin "max") (fun xs H Q => ∃ (a : Addr) (ns : List Int), xs = [.ref a] ∧ SqL X.K H a (ns.map V.int) ∧ 0 < ns.length ∧ ∀ m, m ∈ ns → (∀ b ∈ ns, b ≤ m) → Q (.int m) H) := by
  intro pins s σ H xs us Q I r h
  obtain ⟨a, ns, rfl, hs, hn, q⟩ := h
  obtain ⟨u, rfl, r1⟩ := vals1 r
  obtain rfl : u = Value.ref a := r1
  obtain ⟨its, rv, p, hz⟩ := I.list hs
  obtain ⟨zs, e⟩ := (intsAre_of rv).allInts.items
  have hns : ns = zs.toList.map (·.1) := by rw [← (intsAre_of rv).numsOf, ← nums_intItems, ← e]
  have hsz : 0 < zs.size := by have h3 := hn; rw [hns, List.length_map, Array.length_toList] at h3; exact h3
  have hl := p.isList
  rw [e] at hl
  refine max_intList (I.ok.hd hc) hl hsz fun v h' tk hv hk => ?_
  obtain ⟨t, rfl⟩ := intItems_at hv
  obtain ⟨h1, h2⟩ := argBest_gt (numAt zs) (zs.size - 1)
  have e3 : ∀ k, k < zs.size → numAt zs k ∈ ns := fun k hk => by
    rw [hns]
    refine List.mem_map.mpr ⟨zs[k], by simp, ?_⟩
    simp [numAt, hk]
  have e4 : ∀ b ∈ ns, ∃ k, k < zs.size ∧ numAt zs k = b := fun b hb => by
    rw [hns] at hb
    obtain ⟨y, hy, rfl⟩ := List.mem_map.mp hb
    obtain ⟨k, hk, hk2⟩ := List.getElem_of_mem hy
    have hk' : k < zs.size := by simpa using hk
    refine ⟨k, hk', ?_⟩
    simp [numAt, hk', ← hk2]
  refine ⟨.int (numAt zs (argBest (fun i j => decide (numAt zs i > numAt zs j)) (zs.size - 1))), H, I.kept hk, ⟨_, rfl⟩, q _ (e3 _ (by omega)) fun b hb => ?_⟩
  obtain ⟨k, hk1, rfl⟩ := e4 b hb
  exact h2 k (by omega)
end
section
variable {X : Cx} {scope : Scope} {NB : List Str} {fr : List (Option Nat)} {elt tg iter : Expr} {ifs : List Expr} {pos : Pos} {wi : TI} {g : TG} {tc : TT} {te : TE}
/-- a comprehension within a comprehension -/
theorem pe_compN (hcalm : X.calm = true) (B : BlkOk X.env.scope X.N scope NB fr) (hi : PI X tg iter wi) (hg : ∀ C s H fp, PG (blk X scope NB C s H fp) tg g) (hif : ∀ C s H fp, PIfs (blk X scope NB C s H fp) ifs tc) (he : ∀ C s H fp, PE (blk X scope NB C s H fp) elt te)
    (hs : ∀ x, foldedSetIterable iter X.env x = pure x := by intro _; rfl) : PE X (.ListComp elt [⟨tg, iter, ifs, 0⟩] scope pos) (tComp fr wi g tc te) := pe_comp (sc := X.env.scope) (N := X.N) hcalm B hi hg hif he hs rfl rfl
end
section
variable {X : Cx} {K : PySem.W.Frag} {tg l : Expr} {tl ta : TE} {e : Expr} {f : Str} {pos : Pos}
/-! the rules that speak of the text's objects, for within a comprehension -/
theorem pi_listK (hK : X.K = K) (hl : PE X l tl) : PI X tg l (iList K tl) := by subst hK; exact pi_list hl
theorem pi_tupK (hK : X.K = K) (hl : PE X l tl) : PI X tg l (iTup K tl) := by subst hK; exact pi_tup hl
theorem pe_fldK (hK : X.K = K) (he : PE X e ta) (hb : attributeBase e f X.env (eval e X.env) = eval e X.env) : PE X (.Attribute e f pos) (tFld K ta f) := by subst hK; exact pe_fld he hb
theorem call_sumK (hK : X.K = K) (hc : X.calm = true) : CallR X (.builtin "sum") (fun xs H Q => ∃ (a : Addr) (ns : List Int), xs = [.ref a] ∧ SqL K H a (ns.map V.int) ∧ Q (.int ns.sum) H) := by subst hK; exact call_sumI hc
theorem call_minK (hK : X.K = K) (hc : X.calm = true) : CallR X (.builtin "min") (fun xs H Q => ∃ (a : Addr) (ns : List Int), xs = [.ref a] ∧ SqL K H a (ns.map V.int) ∧ 0 < ns.length ∧ ∀ m, m ∈ ns → (∀ b ∈ ns, m ≤ b) → Q (.int m) H) := by subst hK; exact call_minL hc
theorem call_maxK (hK : X.K = K) (hc : X.calm = true) : CallR X (.builtin "max") (fun xs H Q => ∃ (a : Addr) (ns : List Int), xs = [.ref a] ∧ SqL K H a (ns.map V.int) ∧ 0 < ns.length ∧ ∀ m, m ∈ ns → (∀ b ∈ ns, b ≤ m) → Q (.int m) H) := by subst hK; exact call_maxL hc
end
end L2
namespace Mw
open PySem L2
theorem dot_bits {ws xs : List Int} (hl : ws.length ≤ 1000) (h1 : ∀ w ∈ ws, Bits 900 w) (h2 : ∀ x ∈ xs, -1000 ≤ x ∧ x ≤ 1000) : Bits 1000 (dot ws xs) := by
  have a := dot_abs (A := 2 ^ 900) (B := 1000) (ws := ws) (xs := xs) (fun w hw => Nat.le_of_lt (h1 w hw)) (fun x hx => by have := h2 x hx; omega)
  refine Bits.mono (n := 920) ?_ (by decide)
  show (dot ws xs).natAbs < 2 ^ 920
  have e : (2 : Nat) ^ 920 = 2 ^ 900 * 2 ^ 20 := by rw [← Nat.pow_add]
  have p : 0 < (2 : Nat) ^ 900 := Nat.pow_pos (by decide)
  rw [e]
  refine Nat.lt_of_le_of_lt a ?_
  refine Nat.lt_of_le_of_lt (Nat.mul_le_mul_right _ hl) ?_
  have e2 : (2 : Nat) ^ 20 = 1048576 := by decide
  rw [e2]
  generalize (2 : Nat) ^ 900 = z at *
  omega
end Mw
namespace Mw
open PySem L2
theorem cutI_to (ns : List Int) {hi : Int} (h0 : 0 ≤ hi) (h1 : hi ≤ (ns.length : Int)) : cutI ns none (some hi) = ns.take hi.toNat := by
  unfold cutI
  have e1 : HT.sIx ns.length ns.length (some hi) = hi.toNat := by
    show (if hi < 0 then (hi + (ns.length : Int)).toNat else min hi.toNat ns.length) = hi.toNat
    rw [if_neg (by omega)]; omega
  rw [e1]
  show (ns.drop 0).take (hi.toNat - 0) = _
  rw [List.drop_zero, Nat.sub_zero]
/-- rows that are made one by one -/
theorem rows_of {K : PySem.W.Frag} {H : Hp} : ∀ {ys : List V} {rs : List (List Int × Int)}, ys.length = rs.length → (∀ (j : Nat) y r, ys[j]? = some y → rs[j]? = some r → ∃ t p, y = .ref t ∧ SqT K H t [.ref p, .int r.2] ∧ SqT K H p (r.1.map V.int)) → ∃ as : List Addr, ys = as.map V.ref ∧ RowsAt K H as rs
  | [], [], _, _ => ⟨[], rfl, .nil⟩
  | y :: ys, r :: rs, hl, h => by
    obtain ⟨t, p, e, h1, h2⟩ := h 0 y r rfl rfl
    obtain ⟨as, e2, h3⟩ := rows_of (ys := ys) (rs := rs) (by simpa using hl) fun j y r a b => h (j + 1) y r (by simpa using a) (by simpa using b)
    exact ⟨t :: as, by rw [e, e2]; rfl, .cons ⟨p, h1, h2⟩ h3⟩
end Mw

set_option Elab.async false
set_option linter.all false
set_option maxRecDepth 100000
set_option maxHeartbeats 4000000
namespace L2
open PySem PySem.Spec PyProof.Rows
/-! ## M23. raise C() without arguments -/
section
variable {X : Cx} {C : Addr} {G : St → XK} {x : Str} {np cpos pos : Pos}
theorem ps_raise0 (hc : X.calm = true) (q : ExcC X.K C) (hg : Gl X x) (hm : X.mg x = some (.ref C)) (hx : RaiseG X G) (hdb : (x == ("__debug__" : Str)) = false := by decide) :
    PS X (.Raise (some (.Call (.Name x np) [] [] cpos)) none pos) (tRaise C G tNil) := by
  intro pins s σ H D I h
  obtain ⟨bm, N, nm, qn, bs, hd, sn, sub, ab, col, dd, k0, k1, k2, k3, k5, mN, hC, hN, hni, TL⟩ := q.obj I.mod.kin
  refine wpAny_Raise_call_subU (C := C) (N := N) (nm := nm) (q := qn) (bs := bs) (bm := bm) (hdct := hd) (sn := sn) (sub := sub) (ab := ab) (col := col) (dd := dd) (k0 := k0) (k1 := k1) (k2 := k2) (k3 := k3) (k5 := k5) (mN := mN)
    PySem.F.excBase_ValueError (by decide +kernel) PySem.F.excBase_ValueError (TL.hasType (by decide +kernel)) (I.ok.hd hc) rfl hni (ld_glob I hg hm ⟨rfl, ?_⟩ hdb)
  show wpAny _ _ (evalArgs (.ref C) true [] []) _ _ _
  refine PySem.evalArgs_none ⟨rfl, Nat.zero_le _, ?_⟩
  exact ⟨I.bk _ _ hC, hN.keeps I.bk, TL.keeps I.bk, fun h1 e1 hx1 => hx pins σ H s h1 e1 C [] I hx1 h.2⟩
end
/-! ## M24. comprehensions over enumerate, and with a condition -/
section
variable {K : PySem.W.Frag} {fr : List (Option Nat)} {g : TG} {tc : TT} {te : TE} {D : Addr} {σ : St} {H1 : Hp} {Q : VK}
theorem comp_enum {a : Addr} {xs : List V} (Pv : Nat → List V → Hp → Prop) (h0 : Pv 0 [] (upd H1 D (.lst [])))
    (hD : ∀ i ys H, i ≤ xs.length → Pv i ys H → H D = some (.lst ys) ∧ ys.length ≤ i) (hl : ∀ i ys H, i ≤ xs.length → Pv i ys H → SqL K H a xs) (hn : xs.length ≤ sizeLine)
    (hs : ∀ (i : Nat) x T ys H, xs[i]? = some x → H T = none → Pv i ys H → g (.ref T) (carry fr σ) (upd H T (.tup [.int (i : Nat), x])) fun σ2 H2 => Wk (carry fr σ) σ2 ∧ tc σ2 H2 fun b H3 => if b = true then te σ2 H3 fun y H4 => H4 D = some (.lst ys) ∧ Pv (i + 1) (ys ++ [y]) (upd H4 D (.lst (ys ++ [y]))) else Pv (i + 1) ys H3)
    (hd : ∀ ys H, Pv xs.length ys H → Q (.ref D) H) : tTurns fr g tc te D (Ite K a) σ H1 Q := by
  refine comp_seq (n := xs.length) Pv h0 hD (fun i ys H hi p => ?_) (fun ys H p => ?_) hn (fun i ys H x H' hi p y => ?_) hd
  · have q := hl i ys H (Nat.le_of_lt hi) p
    exact ⟨xs, xs[i], q, by simp [hi]⟩
  · exact ⟨xs, hl _ ys H (Nat.le_refl _) p, Nat.le_refl _⟩
  · obtain ⟨T, v, e1, e2, e3, y⟩ := y
    subst e1 e3
    exact hs i v T ys _ (y xs (hl i ys _ (Nat.le_of_lt hi) p)) e2 p
/-- those of the first i places that p picks, as f tells them -/
def picked (p : Nat → Bool) (f : Nat → V) (i : Nat) : List V := ((List.range i).filter p).map f
theorem picked_succ (p : Nat → Bool) (f : Nat → V) (i : Nat) : picked p f (i + 1) = if p i = true then picked p f i ++ [f i] else picked p f i := by
  unfold picked
  rw [List.range_succ, List.filter_append, List.map_append]
  by_cases h : p i = true
  · rw [if_pos h]; simp [h]
  · rw [if_neg h]; simp [h]
theorem picked_len (p : Nat → Bool) (f : Nat → V) (i : Nat) : (picked p f i).length ≤ i := by
  unfold picked
  rw [List.length_map]
  exact Nat.le_trans (List.length_filter_le _ _) (by rw [List.length_range]; exact Nat.le_refl _)
theorem comp_range_filter {lo : Int} {n : Nat} (p : Nat → Bool) (f : Nat → V) (hn : n ≤ sizeLine) (hD : H1 D = none)
    (hs : ∀ (i : Nat) H (R : VK) (R' : Hp → Prop), i < n → Same H1 H → (p i = true → ∀ H', Same H H' → R (f i) H') → (p i = false → ∀ H', Same H H' → R' H') → g (.int (lo + i)) (carry fr σ) H fun σ2 H2 => Wk (carry fr σ) σ2 ∧ tc σ2 H2 fun b H3 => if b = true then te σ2 H3 R else R' H3)
    (q : ∀ H', Same H1 H' → H' D = some (.lst (picked p f n)) → Q (.ref D) H') : tTurns fr g tc te D (Itr lo n) σ H1 Q := by
  refine comp_range (n := n) (fun i ys H => Same H1 H ∧ H D = some (.lst ys) ∧ ys = picked p f i) ⟨Same.new hD _, upd_same, rfl⟩
    (fun i ys H hi ⟨_, e, z⟩ => ⟨e, by rw [z]; exact picked_len p f i⟩) hn ?_ (fun ys H ⟨e1, e2, e3⟩ => q H e1 (by rw [← e3]; exact e2))
  rintro i ys H hi ⟨e1, e2, e3⟩
  refine hs i H _ _ hi e1 (fun hp H' s => ⟨s _ _ e2, (e1.trans s).upd_old hD, upd_same, ?_⟩) (fun hp H' s => ⟨e1.trans s, s _ _ e2, ?_⟩)
  · rw [picked_succ, if_pos hp, e3]
  · rw [picked_succ, if_neg (by rw [hp]; simp), e3]
theorem comp_list_filter {a : Addr} {xs : List V} (p : Nat → Bool) (f : Nat → V) (hq : SqL K H1 a xs) (hn : xs.length ≤ sizeLine) (hD : H1 D = none)
    (hs : ∀ (i : Nat) x H (R : VK) (R' : Hp → Prop), xs[i]? = some x → Same H1 H → (p i = true → ∀ H', Same H H' → R (f i) H') → (p i = false → ∀ H', Same H H' → R' H') → g x (carry fr σ) H fun σ2 H2 => Wk (carry fr σ) σ2 ∧ tc σ2 H2 fun b H3 => if b = true then te σ2 H3 R else R' H3)
    (q : ∀ H', Same H1 H' → H' D = some (.lst (picked p f xs.length)) → Q (.ref D) H') : tTurns fr g tc te D (Itl K a) σ H1 Q := by
  refine comp_list (xs := xs) (fun i ys H => Same H1 H ∧ H D = some (.lst ys) ∧ ys = picked p f i) ⟨Same.new hD _, upd_same, rfl⟩
    (fun i ys H hi ⟨_, e, z⟩ => ⟨e, by rw [z]; exact picked_len p f i⟩) (fun i ys H hi ⟨e, _, _⟩ => e.seq hq) hn ?_ (fun ys H ⟨e1, e2, e3⟩ => q H e1 (by rw [← e3]; exact e2))
  rintro i x ys H hi ⟨e1, e2, e3⟩
  refine hs i x H _ _ hi e1 (fun hp H' s => ⟨s _ _ e2, (e1.trans s).upd_old hD, upd_same, ?_⟩) (fun hp H' s => ⟨e1.trans s, s _ _ e2, ?_⟩)
  · rw [picked_succ, if_pos hp, e3]
  · rw [picked_succ, if_neg (by rw [hp]; simp), e3]
theorem comp_enum_filter {a : Addr} {xs : List V} (p : Nat → Bool) (f : Nat → V) (hq : SqL K H1 a xs) (hn : xs.length ≤ sizeLine) (hD : H1 D = none)
    (hs : ∀ (i : Nat) x T H (R : VK) (R' : Hp → Prop), xs[i]? = some x → Same H1 H → H T = none → (p i = true → ∀ H', Same (upd H T (.tup [.int (i : Nat), x])) H' → R (f i) H') → (p i = false → ∀ H', Same (upd H T (.tup [.int (i : Nat), x])) H' → R' H') →
      g (.ref T) (carry fr σ) (upd H T (.tup [.int (i : Nat), x])) fun σ2 H2 => Wk (carry fr σ) σ2 ∧ tc σ2 H2 fun b H3 => if b = true then te σ2 H3 R else R' H3)
    (q : ∀ H', Same H1 H' → H' D = some (.lst (picked p f xs.length)) → Q (.ref D) H') : tTurns fr g tc te D (Ite K a) σ H1 Q := by
  refine comp_enum (xs := xs) (fun i ys H => Same H1 H ∧ H D = some (.lst ys) ∧ ys = picked p f i) ⟨Same.new hD _, upd_same, rfl⟩
    (fun i ys H hi ⟨_, e, z⟩ => ⟨e, by rw [z]; exact picked_len p f i⟩) (fun i ys H hi ⟨e, _, _⟩ => e.seq hq) hn ?_ (fun ys H ⟨e1, e2, e3⟩ => q H e1 (by rw [← e3]; exact e2))
  rintro i x T ys H hi hT ⟨e1, e2, e3⟩
  have s0 := Same.new hT (.tup [.int (i : Nat), x])
  refine hs i x T H _ _ hi e1 hT (fun hp H' s => ⟨(s0.trans s) _ _ e2, (e1.trans (s0.trans s)).upd_old hD, upd_same, ?_⟩) (fun hp H' s => ⟨e1.trans (s0.trans s), (s0.trans s) _ _ e2, ?_⟩)
  · rw [picked_succ, if_pos hp, e3]
  · rw [picked_succ, if_neg (by rw [hp]; simp), e3]
/-- picks of ints -/
theorem picked_ints (p : Nat → Bool) (f : Nat → Int) (i : Nat) : picked p (fun j => V.int (f j)) i = (((List.range i).filter p).map f).map V.int := by
  unfold picked; rw [List.map_map]; rfl
end
end L2
namespace Mw
open PySem L2
/-- hands of any kind as a program keeps them -/
structure HandG (S : Type) where
  At : Hp → Addr → S → Prop
  Kd : Addr → Prop
  ins : ∀ {H a h}, At H a h → ∃ C dx fs, H a = some (.ins C dx fs) ∧ Kd C ∧ fs.lookup ("tells" : Str) = none ∧ fs.lookup ("put" : Str) = none ∧ fs.lookup ("weights" : Str) = none ∧ fs.lookup ("mistakes" : Str) = none
  keep : ∀ {L H H' a h}, At H a h → Kp L H H' → a ∉ L → At H' a h
  /-- a list that isn't the hand's is written to -/
  keepL : ∀ {H H' a h D xs}, At H a h → H D = some (.lst xs) → OffD D H H' → At H' a h
end Mw
namespace L2
open PySem PySem.Spec PyProof.Rows
/-- a walk over a list or a tuple, whichever stands in the slot -/
def iVarB (K : PySem.W.Frag) (i : Nat) : TI := fun σ H R => tVar i σ H fun v H1 => ∃ a, v = .ref a ∧ (((∃ xs, SqL K H1 a xs) ∧ R (Itl K a) H1) ∨ ((∃ xs, SqT K H1 a xs) ∧ R (Itt K a) H1))
theorem pi_varB {X : Cx} {tg l : Expr} {i : Nat} (hv : PE X l (tVar i)) : PI X tg l (iVarB X.K i) := by
  intro pins s σ H R I h
  obtain ⟨v, e, a, e2, h⟩ := h
  rcases h with ⟨q, r⟩ | ⟨q, r⟩
  · exact pi_list hv pins s σ H R I ⟨v, e, a, e2, q, r⟩
  · exact pi_tup hv pins s σ H R I ⟨v, e, a, e2, q, r⟩
end L2

set_option Elab.async false
set_option linter.all false
set_option maxRecDepth 100000
set_option maxHeartbeats 4000000
namespace L2
open PySem PySem.Spec PyProof.Rows
/-! ## M25. f"words {number}" -/
def tFstr (t : TE) : TE := fun σ H Q => t σ H fun v H1 => ∃ i : Int, v = .int i ∧ Bits 1900 i ∧ ∀ y, Q (.str y) H1
theorem pe_fstr {X : Cx} {e : Expr} {t : TE} {x : Str} {k : Nat} {p0 p1 p2 : Pos} (he : PE X e t) (hx : x.length ≤ 1000) :
    PE X (.JoinedStr [.Constant (.str x) k p0, .FormattedValue e (-1) none p1] p2) (tFstr t) := by
  intro pins s σ H Q I h
  refine JoinedStr_many (joinParts_cons (Calls.Constant_str ?_))
  have z0 : (Str.empty : Str).length = 0 := rfl
  have z1 : (Str.empty ++ x).length ≤ 1000 := by rw [strLen_append, z0]; omega
  refine ⟨Nat.le_trans z1 (by rw [sizeLine_eq]; decide), ?_⟩
  refine joinParts_cons (FormattedValue_plain (thn (he pins _ σ H _ (I.tok _) h) fun u s1 ⟨v, H1, I1, rv, i, e1, hb, q⟩ => ?_))
  subst e1
  obtain ⟨tk, rfl⟩ := rv
  have hd : i.natAbs.log2 < 1920 := by
    by_cases z : i.natAbs = 0
    · rw [z]; decide
    · exact (Nat.log2_lt z).mpr (Nat.lt_of_lt_of_le hb (Nat.pow_le_pow_right (by decide) (by decide)))
  refine formatField_int_small hd ?_
  have z2 := int_text_length_le (k := 1920) (by decide) hd
  have z3 : (Str.empty ++ x ++ (Str.ofString (toString i))).length ≤ sizeLine := by
    rw [strLen_append, PySem.ofString_length, sizeLine_eq]; omega
  exact ⟨z3, joinParts_nil ⟨.str _, H1, I1.tok _, ⟨_, rfl⟩, q _⟩ z3⟩
section
variable {X : Cx} {K : PySem.W.Frag}
theorem op_inK (hK : X.K = K) : OpR X (compareOp .In) (rIn K false) := by subst hK; exact op_in_seq
theorem op_notInK (hK : X.K = K) : OpR X (compareOp .NotIn) (rIn K true) := by subst hK; exact op_notIn_seq
end
end L2

set_option Elab.async false
set_option linter.all false
set_option maxRecDepth 100000
set_option maxHeartbeats 4000000
namespace L2
open PySem PySem.Spec PyProof.Rows PySem.AutoSeq1
/-! ## M26. (x,) * n -/
theorem tuple_mul2 (l : Addr) (items : Array Value) (n : Nat) (dd : Option Addr) (sl : Array (Option Value)) (x : Int) (u : Tok) (h0 : ¬(items.isEmpty || x == 1) = true) (h1 : ¬(decide (x < -(2 ^ 63)) || decide (x ≥ 2 ^ 63)) = true) (h2 : ¬(decide (x ≤ 0) || items.isEmpty) = true)
    (h3 : ¬((items.size : Int) * x > (2 ^ 63 - 1) / 8)) (h4 : ¬Builtin.Tuple.tupleTooMany ((items.size : Int) * x) = true) (hsz : (List.foldl (fun x1 x2 => x1 ++ x2) #[] (List.replicate x.toNat items)).size ≤ sizeLine) :
    Meets (Builtin.«tuple.__mul__» ⟨[.ref l, .int x u], []⟩) (fun _ R s => s.heap.get? l = some { cls := .type "tuple", dict := dd, data := .seq items n, slots := sl } ∧ R (.ok (.ret (Value.ref s.heap.objs.size))) { s with heap := s.heap.push { cls := Value.type "tuple", data := Data.seq (List.foldl (fun x1 x2 => x1 ++ x2) #[] (List.replicate x.toNat items)) }, toks := s.toks }) :=
  .of_wp fun prog w A R s h => by
    obtain ⟨hp, g, d, tk, os⟩ := s; obtain ⟨hl, h⟩ := h
    have f1 := AutoSeq1.idx_int
    wp_walk using wpAny_loadPart' hl
    refine wpAny_ite_false (decide_eq_false h1) ?_
    wp_walk using wpAny_loadPart' hl
    refine wpAny_ite_false (decide_eq_false h3) ?_
    wp_walk using wpAny_loadPart' hl
    exact ⟨_, rfl, h⟩
theorem tuple_mul1 (l : Addr) (items : Array Value) (n : Nat) (dd : Option Addr) (sl : Array (Option Value)) (u : Tok) (hc : (items.isEmpty || (1 : Int) == 1) = true) (hc1 : ¬(decide ((1 : Int) < -(2 ^ 63)) || decide ((1 : Int) ≥ 2 ^ 63)) = true) :
    Meets (Builtin.«tuple.__mul__» ⟨[.ref l, .int 1 u], []⟩) (fun _ R s => s.heap.get? l = some { cls := .type "tuple", dict := dd, data := .seq items n, slots := sl } ∧ R (.ok (.ret (Value.ref l))) s) :=
  .of_wp fun prog w A R s h => by
    obtain ⟨hp, g, d, tk, os⟩ := s; obtain ⟨hl, h⟩ := h
    have f1 := AutoSeq1.idx_int
    wp_walk using wpAny_loadPart' hl
    exact ⟨_, rfl, h⟩
theorem noFill_tuple_mul : fillsNumberSlot (.type "tuple") "mul" = pure false :=
  PySem.fillsNumberSlot_seq (id := "tuple.__mul__") (r := some (.builtin "tuple.__rmul__")) F.slot_tuple_mul.lookup (by decide +kernel) F.slot_tuple_rmul.lookup (by decide +kernel)
theorem repeat_tuple : seqRepeat? (.type "tuple") = pure (some (.builtin "tuple.__mul__")) := by
  unfold seqRepeat?
  rw [PySem.seqSlot_of (T := "tuple") (name := "__mul__") (id := "tuple.__mul__") F.slot_tuple_mul.lookup (by decide +kernel), PySem.seqSlot_of (T := "tuple") (name := "__rmul__") (id := "tuple.__rmul__") F.slot_tuple_rmul.lookup (by decide +kernel)]
  rfl
theorem int_rmul_tuple (a : Int) (t : Tok) (l : Addr) (items : Array Value) (n : Nat) (dd : Option Addr) (sl : Array (Option Value)) :
    Meets (Builtin.«int.__rmul__» ⟨[.int a t, .ref l], []⟩) (fun _ R s => s.heap.get? l = some { cls := .type "tuple", dict := dd, data := .seq items n, slots := sl } ∧ R (.ok (.ret Value.notImplemented)) s) :=
  .of_wp fun prog w A R s h => by obtain ⟨hp, g, d, tk, os⟩ := s; obtain ⟨hl, h⟩ := h; wp_walk; exact ⟨_, rfl, h⟩
def rRepT (K : PySem.W.Frag) : R2 := fun x y H Q => ∃ a n xs, x = .ref a ∧ y = .int n ∧ SqT K H a xs ∧ xs ≠ [] ∧ 1 ≤ n ∧ n ≤ 1000 ∧ xs.length ≤ 1000 ∧ (n = 1 → Q (.ref a) H) ∧ (n ≠ 1 → ∀ p, H p = none → Q (.ref p) (upd H p (.tup (List.replicate n.toNat xs).flatten)))
theorem op_repT {X : Cx} : OpR X (binaryOp .Mult) (rRepT X.K) := by
  intro pins s σ H x y v u Q I rx ry h
  obtain ⟨l, k, xs, rfl, rfl, hH, hne, h1, h2, hz, q1, q2⟩ := h
  cases rx
  obtain ⟨t, rfl⟩ := ry
  obtain ⟨its, r, tp, _⟩ := I.tuple hH
  obtain ⟨⟨cls, dd, data, sl⟩, ho, hc, n, hd⟩ := id tp
  simp only at hc hd
  subst hc hd
  have hl := r.length
  have hie : ¬ its = [] := fun z => hne (r.nil_iff.mp z)
  by_cases hk : k = 1
  · subst hk
    refine wpAny_binaryOp_repeat_ref (T := "tuple") (U := "int") (by decide) ⟨_, ho, rfl⟩ (fun s' => typeIs_int s' 1 t) noFill_tuple_mul F.fills_int_mul F.slot_int_rmul repeat_tuple F.slot_int_index.lookup
      (call_meets F.slot_int_rmul (typeIs_int s 1 t) F.entry_int_rmul (F.args_int_rmul_2 _ _) (int_rmul_tuple 1 t l its.toArray n dd sl)
        ⟨ho, rfl, ⟨_, ho, rfl⟩, call_meets F.slot_tuple_mul ⟨_, ho, rfl⟩ F.entry_tuple_mul (F.args_tuple_mul_2 _ _) (tuple_mul1 l its.toArray n dd sl t (by simp) (by decide)) ⟨ho, ?_⟩⟩)
    exact ⟨.ref l, H, I, rfl, q1 rfl⟩
  · have hnew : List.foldl (fun x1 x2 => x1 ++ x2) #[] (List.replicate k.toNat its.toArray) = (List.replicate k.toNat its).flatten.toArray := by
      have := foldl_rep its k.toNat []
      rw [List.nil_append] at this
      exact this
    have hsm : (its.length : Int) * k ≤ 1000 * 1000 := by
      have a1 : (its.length : Int) ≤ 1000 := by omega
      have a2 : (0 : Int) ≤ its.length := by omega
      exact Int.le_trans (Int.mul_le_mul_of_nonneg_right a1 (by omega)) (Int.mul_le_mul_of_nonneg_left h2 (by decide))
    have hsn : k.toNat * its.length ≤ 1000 * 1000 := Nat.mul_le_mul (by omega) (by omega)
    have hsl : (sizeLine : Nat) = 2 ^ 24 := sizeLine_eq
    refine wpAny_binaryOp_repeat_ref (T := "tuple") (U := "int") (by decide) ⟨_, ho, rfl⟩ (fun s' => typeIs_int s' k t) noFill_tuple_mul F.fills_int_mul F.slot_int_rmul repeat_tuple F.slot_int_index.lookup
      (call_meets F.slot_int_rmul (typeIs_int s k t) F.entry_int_rmul (F.args_int_rmul_2 _ _) (int_rmul_tuple k t l its.toArray n dd sl)
        ⟨ho, rfl, ⟨_, ho, rfl⟩, call_meets F.slot_tuple_mul ⟨_, ho, rfl⟩ F.entry_tuple_mul (F.args_tuple_mul_2 _ _) (tuple_mul2 l its.toArray n dd sl k t ?_ ?_ ?_ ?_ ?_ ?_) ⟨ho, ?_⟩⟩)
    · simp [hie, hk]
    · simp; omega
    · simp [hie]; omega
    · simp only [List.size_toArray]; omega
    · unfold Builtin.Tuple.tupleTooMany; simp only [List.size_toArray]; simp; omega
    · rw [hnew, List.size_toArray, len_rep]; omega
    rw [hnew]
    refine ⟨.ref s.heap.objs.size, _, I.laid (t' := s.toks) (o := .tup (List.replicate k.toNat xs).flatten) (fun b ob q => Heap.get?_push_of_some _ q) (Nat.le_refl _) ?_, rfl, q2 hk _ (I.hok.fresh (Nat.le_refl _))⟩
    exact ⟨by rw [len_rep, hl]; omega, _, r.rep k.toNat, IsTup.new _ _⟩
theorem op_repTK {X : Cx} {K : PySem.W.Frag} (hK : X.K = K) : OpR X (binaryOp .Mult) (rRepT K) := by subst hK; exact op_repT
end L2

set_option Elab.async false
set_option linter.all false
set_option maxRecDepth 100000
set_option maxHeartbeats 4000000
namespace Mw
/-! ## what mending does to products and squares -/
def mv (c : Int) (ws xs : List Int) : List Int := List.zipWith (fun w x => w + c * x) ws xs
theorem dot_cons (a b : Int) (as bs : List Int) : dot (a :: as) (b :: bs) = a * b + dot as bs := by unfold dot; rw [List.zipWith_cons_cons, List.sum_cons]
theorem mv_cons (c w x : Int) (ws xs : List Int) : mv c (w :: ws) (x :: xs) = (w + c * x) :: mv c ws xs := by unfold mv; rw [List.zipWith_cons_cons]
theorem dot_mv (c : Int) : ∀ {ws xs us : List Int}, ws.length = xs.length → ws.length = us.length → dot (mv c ws xs) us = dot ws us + c * dot xs us
  | [], [], [], _, _ => by simp [dot, mv]
  | w :: ws, x :: xs, u :: us, h1, h2 => by
    have ih := dot_mv c (ws := ws) (xs := xs) (us := us) (by simpa using h1) (by simpa using h2)
    rw [mv_cons, dot_cons, dot_cons, dot_cons, ih]
    grind
theorem dot_mv2 (c : Int) : ∀ {ws xs : List Int}, ws.length = xs.length → dot (mv c ws xs) (mv c ws xs) = dot ws ws + 2 * c * dot ws xs + c * c * dot xs xs
  | [], [], _ => by simp [dot, mv]
  | w :: ws, x :: xs, h1 => by
    have ih := dot_mv2 c (ws := ws) (xs := xs) (by simpa using h1)
    rw [mv_cons, dot_cons, dot_cons, dot_cons, dot_cons, ih]
    grind
theorem sq_le {x y : Int} (h : x * x ≤ y * y) (hy : 0 ≤ y) : x ≤ y := by
  by_cases z : x ≤ y
  · exact z
  · exfalso
    have h1 : y < x := by omega
    have h2 : y * y < x * x := by
      have a : y * y ≤ x * y := Int.mul_le_mul_of_nonneg_right (by omega) hy
      have b : x * y < x * x := Int.mul_lt_mul_of_pos_left h1 (by omega)
      omega
    omega
theorem cs_step {a b A B D : Int} (hA : 0 ≤ A) (hB : 0 ≤ B) (h : D * D ≤ A * B) : (a * b + D) * (a * b + D) ≤ (a * a + A) * (b * b + B) := by
  have key : 2 * a * b * D ≤ a * a * B + b * b * A := by
    refine sq_le ?_ ?_
    · have e1 : (2 * a * b * D) * (2 * a * b * D) = (2 * a * b) * (2 * a * b) * (D * D) := by grind
      have e2 : (a * a * B + b * b * A) * (a * a * B + b * b * A) = (a * a * B - b * b * A) * (a * a * B - b * b * A) + (2 * a * b) * (2 * a * b) * (A * B) := by grind
      have e3 : 0 ≤ (a * a * B - b * b * A) * (a * a * B - b * b * A) := by
        rcases Int.le_total 0 (a * a * B - b * b * A) with q | q
        · exact Int.mul_nonneg q q
        · exact Int.mul_nonneg_of_nonpos_of_nonpos q q
      have e5 : 0 ≤ (2 * a * b) * (2 * a * b) := by
        rcases Int.le_total 0 (2 * a * b) with q | q
        · exact Int.mul_nonneg q q
        · exact Int.mul_nonneg_of_nonpos_of_nonpos q q
      have e4 : (2 * a * b) * (2 * a * b) * (D * D) ≤ (2 * a * b) * (2 * a * b) * (A * B) := Int.mul_le_mul_of_nonneg_left h e5
      rw [e1, e2]
      omega
    · have f : ∀ x : Int, 0 ≤ x * x := fun x => by
        rcases Int.le_total 0 x with q | q
        · exact Int.mul_nonneg q q
        · exact Int.mul_nonneg_of_nonpos_of_nonpos q q
      have := Int.mul_nonneg (f a) hB
      have := Int.mul_nonneg (f b) hA
      omega
  have e : (a * a + A) * (b * b + B) - (a * b + D) * (a * b + D) = (a * a * B + b * b * A - 2 * a * b * D) + (A * B - D * D) := by grind
  omega
theorem cauchy : ∀ {as bs : List Int}, as.length = bs.length → dot as bs * dot as bs ≤ dot as as * dot bs bs
  | [], [], _ => by simp [dot]
  | a :: as, b :: bs, h => by
    rw [dot_cons, dot_cons, dot_cons]
    exact cs_step (dot_self_nonneg as) (dot_self_nonneg bs) (cauchy (by simpa using h))
/-- the bound: e mistakes, each of which lifts the product by z, and the square by at most k -/
theorem few_mistakes {e z k u p s : Int} (he : 0 ≤ e) (hz : 0 ≤ z) (hu : 0 ≤ u) (hk : 0 ≤ k) (hp : e * z ≤ p) (hs : s ≤ e * k) (hc : p * p ≤ s * u) : e * z * z ≤ k * u := by
  by_cases h0 : e = 0
  · subst h0
    have := Int.mul_nonneg hk hu
    have e1 : (0 : Int) * z * z = 0 := by grind
    omega
  · have e1 : 0 ≤ e * z := Int.mul_nonneg he hz
    have e2 : (e * z) * (e * z) ≤ p * p := Int.mul_le_mul hp hp e1 (by omega)
    have e3 : s * u ≤ e * k * u := Int.mul_le_mul_of_nonneg_right hs hu
    have e4 : e * (e * z * z) ≤ e * (k * u) := by
      have x1 : e * (e * z * z) = (e * z) * (e * z) := by grind
      have x2 : e * (k * u) = e * k * u := by grind
      omega
    exact Int.le_of_mul_le_mul_left e4 (by omega)
end Mw

set_option Elab.async false
set_option linter.all false
set_option maxRecDepth 100000
set_option maxHeartbeats 4000000
namespace Mw
open PySem L2
/-- the greatest of some numbers -/
def topI : List Int → Int
  | [] => 0
  | [x] => x
  | x :: y :: r => if topI (y :: r) ≤ x then x else topI (y :: r)
theorem topI_mem : ∀ {ps : List Int}, ps ≠ [] → topI ps ∈ ps
  | [], h => absurd rfl h
  | [x], _ => by simp [topI]
  | x :: y :: r, _ => by
    have ih := topI_mem (ps := y :: r) (by simp)
    unfold topI
    split
    · simp
    · exact List.mem_cons_of_mem _ ih
theorem topI_le : ∀ {ps : List Int} {b : Int}, b ∈ ps → b ≤ topI ps
  | [], _, h => by simp at h
  | [x], b, h => by simp [topI] at *; omega
  | x :: y :: r, b, h => by
    unfold topI
    rcases List.mem_cons.mp h with e | e
    · subst e; split <;> omega
    · have ih := topI_le e
      split <;> omega
theorem topI_eq {ps : List Int} {m : Int} (h : m ∈ ps) (h2 : ∀ b ∈ ps, b ≤ m) : m = topI ps := by
  have a := topI_le h
  have b := h2 _ (topI_mem (fun z => by rw [z] at h; simp at h))
  omega
def bestS (ps : List Int) : List Nat := (List.range ps.length).filter fun j => decide (ps.getD j 0 = topI ps)
/-- the side that is told by the products, or None -/
def guessS (ps : List Int) : V := if 1 < (bestS ps).length then .non else .int (((bestS ps).headD 0 : Nat) : Int)
theorem bestS_ne {ps : List Int} (h : ps ≠ []) : bestS ps ≠ [] := fun z => by
  obtain ⟨j, hj⟩ := List.getElem?_of_mem (topI_mem h)
  have hl := (List.getElem?_eq_some_iff.mp hj).1
  have : j ∈ bestS ps := by
    unfold bestS
    refine List.mem_filter.mpr ⟨List.mem_range.mpr hl, ?_⟩
    simp [List.getD_eq_getElem?_getD, hj]
  rw [z] at this
  simp at this
def othersS (n : Nat) (s : Int) : List Nat := (List.range n).filter fun j => decide ((j : Int) ≠ s)
def rivalS (ps : List Int) (s : Int) : Nat := ((othersS ps.length s).filter fun j => decide (ps.getD j 0 = topI ((othersS ps.length s).map fun j => ps.getD j 0))).headD 0
def spGuessS (K : PySem.W.Frag) : Sp := fun vs H Q _ => ∃ (a : Addr) (ps : List Int), vs = [.ref a] ∧ SqL K H a (ps.map V.int) ∧ ps ≠ [] ∧ ps.length ≤ 1000 ∧ ∀ H', Same H H' → Q (guessS ps) H'
def spRivalS (K : PySem.W.Frag) : Sp := fun vs H Q _ => ∃ (a : Addr) (ps : List Int) (s : Int), vs = [.ref a, .int s] ∧ SqL K H a (ps.map V.int) ∧ othersS ps.length s ≠ [] ∧ ps.length ≤ 1000 ∧ ∀ H', Same H H' → Q (.int (rivalS ps s)) H'
def spMoved (K : PySem.W.Frag) : Sp := fun vs H Q _ => ∃ (a b : Addr) (ws xs : List Int) (c : Int), vs = [.ref a, .ref b, .int c] ∧ SqL K H a (ws.map V.int) ∧ SqT K H b (xs.map V.int) ∧ xs.length ≤ 900 ∧ ws.length ≤ 1000 ∧ (c = 1 ∨ c = -1) ∧ (∀ x ∈ xs, -1000 ≤ x ∧ x ≤ 1000) ∧
  ∀ r H', Same H H' → H r = none → H' r = some (.lst ((mv c ws (xs ++ [1])).map V.int)) → Q (.ref r) H'
theorem others_lt {n : Nat} {s : Int} {j : Nat} (h : j ∈ othersS n s) : j < n := List.mem_range.mp (List.mem_filter.mp h).1
/-- tuples or lists of ints, one for each side -/
def WsAt (K : PySem.W.Frag) (H : Hp) (as : List Addr) (wss : List (List Int)) : Prop := Paired (fun a ws => H a = some (.lst (ws.map V.int))) as wss
def TsAt (H : Hp) (as : List Addr) (wss : List (List Int)) : Prop := Paired (fun a ws => H a = some (.tup (ws.map V.int))) as wss
theorem TsAt.same {H H' : Hp} {as : List Addr} {wss : List (List Int)} (e : Same H H') (h : TsAt H as wss) : TsAt H' as wss := Paired.mapP h fun _ _ q => e _ _ q
/-- _law_all: a tuple of tuples is the list of lists -/
def spAllS (K : PySem.W.Frag) : Sp := fun vs H Q _ => ∃ (a b : Addr) (as bs : List Addr) (wss : List (List Int)), vs = [.ref a, .ref b] ∧ H a = some (.tup (as.map V.ref)) ∧ TsAt H as wss ∧ SqL K H b (bs.map V.ref) ∧ WsAt K H bs wss ∧ ∀ H', Same H H' → Q (.bl true) H'
theorem range_getD (os : List Nat) : (List.range os.length).map (fun i => os.getD i 0) = os := by
  refine List.ext_getElem? fun j => ?_
  rw [List.getElem?_map]
  by_cases h : j < os.length
  · rw [List.getElem?_range h, List.getElem?_eq_getElem h]
    simp [List.getD_eq_getElem?_getD, h]
  · rw [List.getElem?_eq_none (by rw [List.length_range]; omega), List.getElem?_eq_none (by omega)]; rfl
theorem picked_of (os : List Nat) (P : Nat → Bool) (F : Nat → V) : picked (fun i => P (os.getD i 0)) (fun i => F (os.getD i 0)) os.length = (os.filter P).map F := by
  unfold picked
  have e : os.filter P = ((List.range os.length).filter fun i => P (os.getD i 0)).map fun i => os.getD i 0 := by
    conv => lhs; rw [← range_getD os]
    rw [List.filter_map]; rfl
  rw [e, List.map_map]; rfl
/-! ### hands for several sides -/
structure Snd where
  many : Nat
  sides : Nat
  ws : List (List Int)
  err : Nat
namespace Snd
def prods (h : Snd) (p : List Int) : List Int := h.ws.map fun w => dot w (p ++ [1])
def wrong (h : Snd) (p : List Int) (s : Nat) : Bool := decide (guessS (h.prods p) ≠ V.int s)
def mend (wss : List (List Int)) (ps : List Int) (p : List Int) (s : Nat) : List (List Int) :=
  let a := wss.set s (mv 1 (wss.getD s []) (p ++ [1]))
  a.set (rivalS ps s) (mv (-1) (a.getD (rivalS ps s) []) (p ++ [1]))
def step (h : Snd) (p : List Int) (s : Nat) : Snd := if h.wrong p s = true then { h with ws := mend h.ws (h.prods p) p s, err := h.err + 1 } else h
def new (many sides : Nat) : Snd := ⟨many, sides, List.replicate sides (List.replicate (many + 1) 0), 0⟩
structure Ok (h : Snd) : Prop where
  pos : 0 < h.many
  few : h.many ≤ 4
  two : 2 ≤ h.sides
  five : h.sides ≤ 5
  len : h.ws.length = h.sides
  lens : ∀ w ∈ h.ws, w.length = h.many + 1
  low : ∀ w ∈ h.ws, ∀ x ∈ w, x.natAbs ≤ 2000 * h.err
structure PtOk (h : Snd) (p : List Int) : Prop where
  len : p.length = h.many
  low : ∀ x ∈ p, -1000 ≤ x ∧ x ≤ 1000
end Snd
section
variable (K : PySem.W.Frag) (I : HandG Snd) (np ns : Addr)
def spNewS : Sp := fun vs H Q _ => ∃ m n : Nat, vs = [V.int m, .int n] ∧ 0 < m ∧ m ≤ 4 ∧ 2 ≤ n ∧ n ≤ 5 ∧ ∀ r H', Same H H' → H r = none → I.At H' r (Snd.new m n) → Q (.ref r) H'
def spTellsS : Sp := fun vs H Q E => ∃ (a p : Addr) (h : Snd) (xs : List Int), vs = [.ref a, .ref p] ∧ I.At H a h ∧ h.Ok ∧ h.err ≤ errTop ∧ SqT K H p (xs.map V.int) ∧ xs.length ≤ 900 ∧
  (xs.length ≠ h.many → ∀ H', Same H H' → E (.ref np) none H') ∧ (xs.length = h.many → h.PtOk xs ∧ ∀ H', Same H H' → Q (guessS (h.prods xs)) H')
def spPutS : Sp := fun vs H Q E => ∃ (a p : Addr) (h : Snd) (xs : List Int) (s : Int), vs = [.ref a, .ref p, .int s] ∧ I.At H a h ∧ h.Ok ∧ h.err ≤ errTop ∧ SqT K H p (xs.map V.int) ∧ xs.length ≤ 900 ∧
  (xs.length ≠ h.many → ∀ H', Same H H' → E (.ref np) none H') ∧ (xs.length = h.many → ¬ (0 ≤ s ∧ s < h.sides) → Bits 1900 s ∧ ∀ H', Same H H' → E (.ref ns) none H') ∧
  (xs.length = h.many → (0 ≤ s ∧ s < h.sides) → h.PtOk xs ∧ ∀ H', Kp [a] H H' → I.At H' a (h.step xs s.toNat) → Q (.bl (h.wrong xs s.toNat)) H')
def spWtsS : Sp := fun vs H Q _ => ∃ (a : Addr) (h : Snd), vs = [.ref a] ∧ I.At H a h ∧ ∀ r H' (ts : List Addr), Same H H' → H' r = some (.tup (ts.map V.ref)) → TsAt H' ts h.ws → Q (.ref r) H'
def spErrS : Sp := fun vs H Q _ => ∃ (a : Addr) (h : Snd), vs = [.ref a] ∧ I.At H a h ∧ ∀ H', Same H H' → Q (.int h.err) H'
end
theorem rivalS_lt {ps : List Int} {s : Int} (h : othersS ps.length s ≠ []) : rivalS ps s < ps.length ∧ (rivalS ps s : Int) ≠ s := by
  have hfn : ((othersS ps.length s).filter fun j => decide (ps.getD j 0 = topI ((othersS ps.length s).map fun j => ps.getD j 0))) ≠ [] := fun z => by
    obtain ⟨j, hj1, hj2⟩ := List.mem_map.mp (topI_mem (ps := (othersS ps.length s).map fun j => ps.getD j 0) (by simpa using h))
    have : j ∈ ((othersS ps.length s).filter fun j => decide (ps.getD j 0 = topI ((othersS ps.length s).map fun j => ps.getD j 0))) := List.mem_filter.mpr ⟨hj1, by simpa using hj2⟩
    rw [z] at this
    simp at this
  have hm : rivalS ps s ∈ othersS ps.length s := by
    unfold rivalS
    cases e : ((othersS ps.length s).filter fun j => decide (ps.getD j 0 = topI ((othersS ps.length s).map fun j => ps.getD j 0))) with
    | nil => exact absurd e hfn
    | cons j r =>
      have : j ∈ ((othersS ps.length s).filter fun j => decide (ps.getD j 0 = topI ((othersS ps.length s).map fun j => ps.getD j 0))) := by rw [e]; simp
      exact (List.mem_filter.mp this).1
  exact ⟨others_lt hm, by have := (List.mem_filter.mp hm).2; simpa using this⟩
theorem others_ne {n : Nat} {s : Nat} (h : 2 ≤ n) : othersS n s ≠ [] := fun z => by
  by_cases h0 : s = 0
  · have : 1 ∈ othersS n s := List.mem_filter.mpr ⟨List.mem_range.mpr (by omega), by simp; omega⟩
    rw [z] at this; simp at this
  · have : 0 ∈ othersS n s := List.mem_filter.mpr ⟨List.mem_range.mpr (by omega), by simp; omega⟩
    rw [z] at this; simp at this
theorem refs_of {P : Nat → Addr → Prop} : ∀ {ys : List V}, (∀ (j : Nat) y, ys[j]? = some y → ∃ b, y = .ref b ∧ P j b) → ∃ bs : List Addr, ys = bs.map V.ref ∧ ∀ (j : Nat) b, bs[j]? = some b → P j b := by
  intro ys
  induction ys generalizing P with
  | nil => intro _; exact ⟨[], rfl, fun j b e => by simp at e⟩
  | cons y ys ih =>
    intro h
    obtain ⟨b, e, hb⟩ := h 0 y rfl
    obtain ⟨bs, e2, h2⟩ := ih (P := fun j b => P (j + 1) b) fun j y hy => h (j + 1) y (by simpa using hy)
    refine ⟨b :: bs, by rw [e, e2]; rfl, fun j c hc => ?_⟩
    cases j with
    | zero => have : b = c := by simpa using hc
              rw [← this]; exact hb
    | succ j => exact h2 j c (by simpa using hc)
theorem wsAt_rep {K : PySem.W.Frag} {H : Hp} {ws : List Int} : ∀ {bs : List Addr}, (∀ (j : Nat) b, bs[j]? = some b → H b = some (.lst (ws.map V.int))) → WsAt K H bs (List.replicate bs.length ws)
  | [], _ => .nil
  | b :: bs, h => by
    rw [List.length_cons, List.replicate_succ]
    exact .cons (h 0 b rfl) (wsAt_rep (K := K) fun j c hc => h (j + 1) c (by simpa using hc))
theorem paired_set {α β : Type} {R : α → β → Prop} : ∀ {as : List α} {bs : List β} {i : Nat} {a : α} {b : β}, Paired R as bs → R a b → Paired R (as.set i a) (bs.set i b)
  | _, _, _, _, _, .nil, _ => .nil
  | _, _, 0, _, _, .cons _ t, h => .cons h t
  | _, _, i + 1, _, _, .cons r t, h => .cons r (paired_set t h)
theorem WsAt.off {K : PySem.W.Frag} {H H' : Hp} {D : Addr} {bs : List Addr} {wss : List (List Int)} (h : WsAt K H bs wss) (n : D ∉ bs) (o : OffD D H H') : WsAt K H' bs wss := by
  unfold WsAt at *
  induction h with
  | nil => exact .nil
  | cons r t ih => exact .cons (o _ _ (fun z => n (by rw [z]; simp)) r) (ih fun z => n (List.mem_cons_of_mem _ z))
theorem WsAt.kp {K : PySem.W.Frag} {S : List Addr} {H H' : Hp} {bs : List Addr} {wss : List (List Int)} (h : WsAt K H bs wss) (k : Kp S H H') : WsAt K H' bs wss := Paired.mapP h fun _ _ q => k.lst q
theorem guessS_scal (ps : List Int) (n : Int) : scal (guessS ps) (.int n) = true := by unfold guessS; split <;> rfl
theorem guessS_two (ps : List Int) : guessS ps = .non ∨ ∃ n : Int, guessS ps = .int n := by
  unfold guessS; split
  · exact .inl rfl
  · exact .inr ⟨_, rfl⟩
theorem mv_len {c : Int} {ws xs : List Int} (h : ws.length = xs.length) : (mv c ws xs).length = ws.length := by
  unfold mv; rw [List.length_zipWith, h]; exact Nat.min_self _
theorem mv_mem {c : Int} (hc : c = 1 ∨ c = -1) {n : Nat} : ∀ {ws xs : List Int}, (∀ w ∈ ws, w.natAbs ≤ n) → (∀ x ∈ xs, -1000 ≤ x ∧ x ≤ 1000) → ∀ z ∈ mv c ws xs, z.natAbs ≤ n + 1000
  | [], _, _, _, z, hz => by simp [mv] at hz
  | _ :: _, [], _, _, z, hz => by simp [mv] at hz
  | w :: ws, x :: xs, h1, h2, z, hz => by
    rw [mv_cons] at hz
    rcases List.mem_cons.mp hz with e | e
    · have a1 := h1 w (List.mem_cons_self ..)
      have a2 := h2 x (List.mem_cons_self ..)
      rcases hc with rfl | rfl <;> rw [e] <;> omega
    · exact mv_mem hc (fun w hw => h1 w (List.mem_cons_of_mem _ hw)) (fun x hx => h2 x (List.mem_cons_of_mem _ hx)) z e
theorem Snd.new_ok {m n : Nat} (h0 : 0 < m) (h4 : m ≤ 4) (h2 : 2 ≤ n) (h5 : n ≤ 5) : (Snd.new m n).Ok :=
  ⟨h0, h4, h2, h5, by simp [Snd.new], fun w hw => by rw [(List.mem_replicate.mp hw).2]; simp [Snd.new], fun w hw x hx => by
    rw [(List.mem_replicate.mp hw).2] at hx
    rw [(List.mem_replicate.mp hx).2]; simp⟩
theorem Snd.step_many (h : Snd) (p : List Int) (s : Nat) : (h.step p s).many = h.many := by unfold Snd.step; split <;> rfl
theorem Snd.step_sides (h : Snd) (p : List Int) (s : Nat) : (h.step p s).sides = h.sides := by unfold Snd.step; split <;> rfl
theorem Snd.step_err (h : Snd) (p : List Int) (s : Nat) : (h.step p s).err = h.err + (if h.wrong p s = true then 1 else 0) := by unfold Snd.step; split <;> rfl
theorem Snd.prods_len (h : Snd) (p : List Int) : (h.prods p).length = h.ws.length := by unfold Snd.prods; rw [List.length_map]
theorem Snd.Ok.step {h : Snd} {p : List Int} {s : Nat} (o : h.Ok) (q : h.PtOk p) (hs : s < h.sides) : (h.step p s).Ok := by
  unfold Snd.step
  split
  · have hl := o.len
    have hlow := Hnd.low_snoc q.low
    have hpl : (p ++ [1]).length = h.many + 1 := by rw [List.length_append, q.len]; rfl
    have hset : ∀ (wss : List (List Int)) (i : Nat) (c : Int) (e : Nat), (c = 1 ∨ c = -1) → i < wss.length → (∀ w ∈ wss, w.length = h.many + 1) → (∀ w ∈ wss, ∀ x ∈ w, x.natAbs ≤ e) → (∀ w ∈ wss.set i (mv c (wss.getD i []) (p ++ [1])), w.length = h.many + 1) ∧ (∀ w ∈ wss.set i (mv c (wss.getD i []) (p ++ [1])), ∀ x ∈ w, x.natAbs ≤ e + 1000) := by
      intro wss i c e hc hi h1 h2
      have hg : wss.getD i [] = wss[i] := by rw [List.getD_eq_getElem?_getD, List.getElem?_eq_getElem hi]; rfl
      have hm : wss[i] ∈ wss := List.getElem_mem hi
      rw [hg]
      refine ⟨fun w hw => ?_, fun w hw x hx => ?_⟩
      · rcases List.mem_or_eq_of_mem_set hw with z | z
        · exact h1 w z
        · rw [z, mv_len (by rw [h1 _ hm, hpl]), h1 _ hm]
      · rcases List.mem_or_eq_of_mem_set hw with z | z
        · have := h2 w z x hx; omega
        · rw [z] at hx; exact mv_mem hc (h2 _ hm) hlow x hx
    have hsl : s < h.ws.length := by omega
    have hrv := rivalS_lt (ps := h.prods p) (s := (s : Int)) (by rw [Snd.prods_len, hl]; exact others_ne o.two)
    rw [Snd.prods_len] at hrv
    obtain ⟨a1, a2⟩ := hset h.ws s 1 (2000 * h.err) (.inl rfl) hsl o.lens o.low
    obtain ⟨b1, b2⟩ := hset (h.ws.set s (mv 1 (h.ws.getD s []) (p ++ [1]))) (rivalS (h.prods p) s) (-1) (2000 * h.err + 1000) (.inr rfl) (by rw [List.length_set]; exact hrv.1) a1 a2
    refine ⟨o.pos, o.few, o.two, o.five, ?_, b1, fun w hw x hx => ?_⟩
    · show (Snd.mend h.ws (h.prods p) p s).length = h.sides
      unfold Snd.mend
      rw [List.length_set, List.length_set, hl]
    · have := b2 w hw x hx
      show x.natAbs ≤ 2000 * (h.err + 1)
      omega
  · exact o
theorem bits_of_abs' {x : Int} (h : x.natAbs ≤ 100000000000000000000) : Bits 1000 x := by
  refine Bits.mono (n := 200) ?_ (by decide)
  show x.natAbs < 2 ^ 200
  have e : (2 : Nat) ^ 200 = 1606938044258990275541962092341162602522202993782792835301376 := by decide
  omega
end Mw

set_option linter.all false
namespace Mw
/-! ## powers of two, and hands by halves -/
theorem frac_uniq {x y u v : Int} (hy : 0 < y) (hv : 0 < v) (g1 : Int.gcd x y = 1) (g2 : Int.gcd u v = 1) (h : x * v = u * y) : x = u ∧ y = v := by
  have d1 : y.natAbs ∣ v.natAbs := by
    have : y.natAbs ∣ x.natAbs * v.natAbs := by rw [← Int.natAbs_mul, h, Int.natAbs_mul]; exact Nat.dvd_mul_left _ _
    exact Nat.Coprime.dvd_of_dvd_mul_left (show Nat.Coprime y.natAbs x.natAbs by rw [Nat.coprime_comm]; exact g1) this
  have d2 : v.natAbs ∣ y.natAbs := by
    have : v.natAbs ∣ u.natAbs * y.natAbs := by rw [← Int.natAbs_mul, ← h, Int.natAbs_mul]; exact Nat.dvd_mul_left _ _
    exact Nat.Coprime.dvd_of_dvd_mul_left (show Nat.Coprime v.natAbs u.natAbs by rw [Nat.coprime_comm]; exact g2) this
  have e : y.natAbs = v.natAbs := Nat.dvd_antisymm d1 d2
  have e2 : y = v := by omega
  subst e2
  exact ⟨Int.eq_of_mul_eq_mul_right (by omega) h, rfl⟩
def top2 (w : Int) : Int := 2 ^ w.toNat
def bot2 (w : Int) : Int := 2 ^ (-w).toNat
theorem pow2_pos (n : Nat) : (0 : Int) < 2 ^ n := Int.pow_pos (by decide)
theorem pow2_cast (k : Nat) : (2 : Int) ^ k = ((2 ^ k : Nat) : Int) := by rw [Int.natCast_pow]; rfl
theorem pow2_mono {k l : Nat} (h : k ≤ l) : (2 : Int) ^ k ≤ 2 ^ l := by
  rw [pow2_cast, pow2_cast]; exact Int.ofNat_le.mpr (Nat.pow_le_pow_right (by decide) h)
theorem pow2_lt {k l : Nat} (h : k < l) : (2 : Int) ^ k < 2 ^ l := by
  rw [pow2_cast, pow2_cast]; exact Int.ofNat_lt.mpr (Nat.pow_lt_pow_right (by decide) h)
theorem bot2_pos (w : Int) : 0 < bot2 w := pow2_pos _
theorem top2_pos (w : Int) : 0 < top2 w := pow2_pos _
theorem tb_one (w : Int) : top2 w = 1 ∨ bot2 w = 1 := by
  unfold top2 bot2
  by_cases h : 0 ≤ w
  · right
    have : (-w).toNat = 0 := by omega
    rw [this]; rfl
  · left
    have : w.toNat = 0 := by omega
    rw [this]; rfl
theorem tb_gcd (w : Int) : Int.gcd (top2 w) (bot2 w) = 1 := by
  rcases tb_one w with h | h <;> rw [h] <;> simp
/-- 2 to the w-th, w of either sign, times 2 to the e-th -/
theorem tb_scale {w : Int} {e : Nat} (h : -(e : Int) ≤ w) : top2 w * 2 ^ e = 2 ^ (w + e).toNat * bot2 w := by
  unfold top2 bot2
  rw [← Int.pow_add, ← Int.pow_add]
  congr 1
  omega
theorem tb_cross (w v : Int) (e : Nat) (h1 : -(e : Int) ≤ w) (h2 : -(e : Int) ≤ v) : top2 w * bot2 v * 2 ^ (v + e).toNat = top2 v * bot2 w * 2 ^ (w + e).toNat := by
  have a := tb_scale h1
  have b := tb_scale h2
  have p := pow2_pos e
  refine Int.eq_of_mul_eq_mul_right (Int.ne_of_gt p) ?_
  calc top2 w * bot2 v * 2 ^ (v + e).toNat * 2 ^ e = (top2 w * 2 ^ e) * (2 ^ (v + e).toNat * bot2 v) := by ac_rfl
    _ = (2 ^ (w + e).toNat * bot2 w) * (top2 v * 2 ^ e) := by rw [a, b]
    _ = top2 v * bot2 w * 2 ^ (w + e).toNat * 2 ^ e := by ac_rfl
/-- doubled -/
theorem tb_dbl (w : Int) : ptop (top2 w * 2) (bot2 w * 1) = top2 (w + 1) ∧ pbot (top2 w * 2) (bot2 w * 1) = bot2 (w + 1) := by
  have hb : bot2 w * 1 ≠ 0 := by have := bot2_pos w; omega
  refine frac_uniq (pbot_pos hb) (bot2_pos _) (part_gcd hb) (tb_gcd _) ?_
  have c := part_cross (t := top2 w * 2) (b := bot2 w * 1)
  have x : top2 w * 2 * bot2 (w + 1) = top2 (w + 1) * (bot2 w * 1) := by
    have y := tb_cross w (w + 1) (w.natAbs + 1) (by omega) (by omega)
    have e : (w + 1 + ((w.natAbs + 1 : Nat) : Int)).toNat = (w + ((w.natAbs + 1 : Nat) : Int)).toNat + 1 := by omega
    rw [e, Int.pow_succ] at y
    refine Int.eq_of_mul_eq_mul_right (Int.ne_of_gt (pow2_pos (w + ((w.natAbs + 1 : Nat) : Int)).toNat)) ?_
    rw [Int.mul_one]
    calc top2 w * 2 * bot2 (w + 1) * 2 ^ (w + ((w.natAbs + 1 : Nat) : Int)).toNat = top2 w * bot2 (w + 1) * (2 ^ (w + ((w.natAbs + 1 : Nat) : Int)).toNat * 2) := by ac_rfl
      _ = _ := y
  have p := bot2_pos w
  refine Int.eq_of_mul_eq_mul_right (show (bot2 w * 1 : Int) ≠ 0 by omega) ?_
  calc ptop (top2 w * 2) (bot2 w * 1) * bot2 (w + 1) * (bot2 w * 1) = (ptop (top2 w * 2) (bot2 w * 1) * (bot2 w * 1)) * bot2 (w + 1) := by ac_rfl
    _ = (top2 w * 2 * pbot (top2 w * 2) (bot2 w * 1)) * bot2 (w + 1) := by rw [c]
    _ = (top2 w * 2 * bot2 (w + 1)) * pbot (top2 w * 2) (bot2 w * 1) := by ac_rfl
    _ = (top2 (w + 1) * (bot2 w * 1)) * pbot (top2 w * 2) (bot2 w * 1) := by rw [x]
    _ = top2 (w + 1) * pbot (top2 w * 2) (bot2 w * 1) * (bot2 w * 1) := by ac_rfl
/-- halved -/
theorem tb_hlf (w : Int) : ptop (top2 w * 1) (bot2 w * 2) = top2 (w - 1) ∧ pbot (top2 w * 1) (bot2 w * 2) = bot2 (w - 1) := by
  have hb : bot2 w * 2 ≠ 0 := by have := bot2_pos w; omega
  refine frac_uniq (pbot_pos hb) (bot2_pos _) (part_gcd hb) (tb_gcd _) ?_
  have c := part_cross (t := top2 w * 1) (b := bot2 w * 2)
  have x : top2 w * 1 * bot2 (w - 1) = top2 (w - 1) * (bot2 w * 2) := by
    have y := tb_cross w (w - 1) (w.natAbs + 1) (by omega) (by omega)
    have e : (w + ((w.natAbs + 1 : Nat) : Int)).toNat = (w - 1 + ((w.natAbs + 1 : Nat) : Int)).toNat + 1 := by omega
    rw [e, Int.pow_succ] at y
    refine Int.eq_of_mul_eq_mul_right (Int.ne_of_gt (pow2_pos (w - 1 + ((w.natAbs + 1 : Nat) : Int)).toNat)) ?_
    rw [Int.mul_one]
    rw [y]; ac_rfl
  have p := bot2_pos w
  refine Int.eq_of_mul_eq_mul_right (show (bot2 w * 2 : Int) ≠ 0 by omega) ?_
  calc ptop (top2 w * 1) (bot2 w * 2) * bot2 (w - 1) * (bot2 w * 2) = (ptop (top2 w * 1) (bot2 w * 2) * (bot2 w * 2)) * bot2 (w - 1) := by ac_rfl
    _ = (top2 w * 1 * pbot (top2 w * 1) (bot2 w * 2)) * bot2 (w - 1) := by rw [c]
    _ = (top2 w * 1 * bot2 (w - 1)) * pbot (top2 w * 1) (bot2 w * 2) := by ac_rfl
    _ = (top2 (w - 1) * (bot2 w * 2)) * pbot (top2 w * 1) (bot2 w * 2) := by rw [x]
    _ = top2 (w - 1) * pbot (top2 w * 1) (bot2 w * 2) * (bot2 w * 2) := by ac_rfl
/-- the weights at the coordinates that are 1, times 2 to the e-th -/
def much (pw p : List Int) (e : Nat) : Int := (((pw.zip p).filter fun z : Int × Int => decide (z.2 = 1)).map fun z : Int × Int => (2 : Int) ^ (z.1 + (e : Int)).toNat).sum
theorem much_cons1 (w x : Int) (pw p : List Int) (e : Nat) (h : x = 1) : much (w :: pw) (x :: p) e = 2 ^ (w + e).toNat + much pw p e := by
  unfold much
  simp [h]
theorem much_cons0 (w x : Int) (pw p : List Int) (e : Nat) (h : x ≠ 1) : much (w :: pw) (x :: p) e = much pw p e := by
  unfold much
  simp [h]
theorem much_nil (p : List Int) (e : Nat) : much [] p e = 0 := by unfold much; simp
theorem much_nil2 (w : List Int) (e : Nat) : much w [] e = 0 := by unfold much; simp
theorem much_scale : ∀ (pw p : List Int) (e d : Nat), (∀ w ∈ pw, -(e : Int) ≤ w) → much pw p (e + d) = much pw p e * 2 ^ d
  | [], p, e, d, _ => by rw [much_nil, much_nil, Int.zero_mul]
  | w :: pw, [], e, d, _ => by rw [much_nil2, much_nil2, Int.zero_mul]
  | w :: pw, x :: p, e, d, h => by
    have ih := much_scale pw p e d fun w hw => h w (List.mem_cons_of_mem _ hw)
    by_cases hx : x = 1
    · rw [much_cons1 _ _ _ _ _ hx, much_cons1 _ _ _ _ _ hx, ih, Int.add_mul, ← Int.pow_add]
      have := h w (List.mem_cons_self ..)
      have e1 : (w + ((e + d : Nat) : Int)).toNat = (w + (e : Int)).toNat + d := by omega
      rw [e1]
    · rw [much_cons0 _ _ _ _ _ hx, much_cons0 _ _ _ _ _ hx, ih]
/-- by whatever scale -/
theorem much_le {pw p : List Int} {m : Int} {e f : Nat} (he : ∀ w ∈ pw, -(e : Int) ≤ w) (hef : e ≤ f) : (m * 2 ^ f ≤ much pw p f) ↔ (m * 2 ^ e ≤ much pw p e) := by
  obtain ⟨d, rfl⟩ : ∃ d, f = e + d := ⟨f - e, by omega⟩
  rw [much_scale pw p e d he, Int.pow_add, ← Int.mul_assoc]
  exact ⟨fun h => Int.le_of_mul_le_mul_right h (pow2_pos d), fun h => Int.mul_le_mul_of_nonneg_right h (Int.le_of_lt (pow2_pos d))⟩
end Mw

set_option Elab.async false
set_option linter.all false
set_option maxRecDepth 100000
set_option maxHeartbeats 4000000
namespace Mw
open PySem L2
/-! ### hands by halves -/
structure Vnd where
  many : Nat
  pw : List Int
  err : Nat
namespace Vnd
def tell (h : Vnd) (p : List Int) : Int := if (h.many : Int) * 2 ^ h.err ≤ much h.pw p h.err then 1 else 0
def wrong (h : Vnd) (p : List Int) (s : Int) : Bool := decide (h.tell p ≠ s)
def mend (pw p : List Int) (s : Int) : List Int := List.zipWith (fun w x => if x = 1 then w + (2 * s - 1) else w) pw p
def step (h : Vnd) (p : List Int) (s : Int) : Vnd := if h.wrong p s = true then { h with pw := mend h.pw p s, err := h.err + 1 } else h
def new (many : Nat) : Vnd := ⟨many, List.replicate many 0, 0⟩
structure Ok (h : Vnd) : Prop where
  pos : 0 < h.many
  few : h.many ≤ 12
  len : h.pw.length = h.many
  low : ∀ w ∈ h.pw, w.natAbs ≤ h.err
structure PtOk (h : Vnd) (p : List Int) : Prop where
  len : p.length = h.many
  low : ∀ x ∈ p, x = 0 ∨ x = 1
theorem new_ok {m : Nat} (h0 : 0 < m) (h1 : m ≤ 12) : (new m).Ok := ⟨h0, h1, by unfold new; simp, fun w hw => by unfold new at hw; rw [(List.mem_replicate.mp hw).2]; simp⟩
theorem step_many (h : Vnd) (p : List Int) (s : Int) : (h.step p s).many = h.many := by unfold step; split <;> rfl
theorem step_err (h : Vnd) (p : List Int) (s : Int) : (h.step p s).err = h.err + (if h.wrong p s = true then 1 else 0) := by unfold step; split <;> rfl
theorem mend_mem {s : Int} (hs : s = 0 ∨ s = 1) {n : Nat} : ∀ {ws xs : List Int}, (∀ w ∈ ws, w.natAbs ≤ n) → ∀ z ∈ mend ws xs s, z.natAbs ≤ n + 1
  | [], _, _, z, hz => by simp [mend] at hz
  | _ :: _, [], _, z, hz => by simp [mend] at hz
  | w :: ws, x :: xs, h1, z, hz => by
    unfold mend at hz
    rw [List.zipWith_cons_cons] at hz
    rcases List.mem_cons.mp hz with e | e
    · have a1 := h1 w (List.mem_cons_self ..)
      rw [e]
      split
      · rcases hs with rfl | rfl <;> omega
      · omega
    · exact mend_mem hs (fun w hw => h1 w (List.mem_cons_of_mem _ hw)) z e
theorem Ok.step {h : Vnd} {p : List Int} {s : Int} (o : h.Ok) (q : h.PtOk p) (hs : s = 0 ∨ s = 1) : (h.step p s).Ok := by
  unfold Vnd.step
  split
  · refine ⟨o.pos, o.few, ?_, fun w hw => mend_mem hs o.low w hw⟩
    show (mend h.pw p s).length = h.many
    unfold mend
    rw [List.length_zipWith, o.len, q.len]; exact Nat.min_self _
  · exact o
end Vnd
/-! ### hands of any kind -/
inductive Gnd where
  | p (h : Hnd)
  | v (h : Vnd)
  | s (h : Snd)
namespace Gnd
def kd : Gnd → Nat
  | .p h => h.kd
  | .v _ => 3
  | .s _ => 4
def many : Gnd → Nat
  | .p h => h.many
  | .v h => h.many
  | .s h => h.many
def err : Gnd → Nat
  | .p h => h.err
  | .v h => h.err
  | .s h => h.err
def has : Gnd → Int → Bool
  | .p _, z => decide (z = 0 ∨ z = 1)
  | .v _, z => decide (z = 0 ∨ z = 1)
  | .s h, z => decide (0 ≤ z ∧ z < h.sides)
def guess : Gnd → List Int → V
  | .p h, x => guessV (h.prod x)
  | .v h, x => .int (h.tell x)
  | .s h, x => guessS (h.prods x)
def wrong : Gnd → List Int → Int → Bool
  | .p h, x, z => h.wrong x z
  | .v h, x, z => h.wrong x z
  | .s h, x, z => h.wrong x z.toNat
def mended : Gnd → List Int → Int → Gnd
  | .p h, x, z => .p { h with ws := if h.kd = 0 then h.ws else Hnd.mend h.ws x z }
  | .v h, x, z => .v { h with pw := Vnd.mend h.pw x z }
  | .s h, x, z => .s { h with ws := Snd.mend h.ws (h.prods x) x z.toNat }
def tick : Gnd → Gnd
  | .p h => .p { h with err := h.err + 1 }
  | .v h => .v { h with err := h.err + 1 }
  | .s h => .s { h with err := h.err + 1 }
def step : Gnd → List Int → Int → Gnd
  | .p h, x, z => .p (h.step x z)
  | .v h, x, z => .v (h.step x z)
  | .s h, x, z => .s (h.step x z.toNat)
def Ok : Gnd → Prop
  | .p h => h.Ok
  | .v h => h.Ok
  | .s h => h.Ok
def PtOk : Gnd → List Int → Prop
  | .p h => h.PtOk
  | .v h => h.PtOk
  | .s h => h.PtOk
/-- so many mistakes, and e more, are small for Python's numbers -/
def Small (e : Nat) : Gnd → Prop
  | .p h => h.err ≤ errTop + e
  | .v h => h.err ≤ 300 + e
  | .s h => h.err ≤ errTop + e
theorem step_eq (g : Gnd) (x : List Int) (z : Int) : g.step x z = if g.wrong x z = true then g.tick.mended x z else g := by
  cases g with
  | p h =>
    show Gnd.p (h.step x z) = if h.wrong x z = true then _ else _
    unfold Hnd.step
    split <;> rfl
  | v h =>
    show Gnd.v (h.step x z) = if h.wrong x z = true then _ else _
    unfold Vnd.step
    split <;> rfl
  | s h =>
    show Gnd.s (h.step x z.toNat) = if h.wrong x z.toNat = true then _ else _
    unfold Snd.step
    split <;> rfl
theorem tick_many (g : Gnd) : g.tick.many = g.many := by cases g <;> rfl
theorem tick_kd (g : Gnd) : g.tick.kd = g.kd := by cases g <;> rfl
theorem tick_has (g : Gnd) (z : Int) : g.tick.has z = g.has z := by cases g <;> rfl
theorem tick_err (g : Gnd) : g.tick.err = g.err + 1 := by cases g <;> rfl
theorem tick_pt {g : Gnd} {x : List Int} (h : g.PtOk x) : g.tick.PtOk x := by
  cases g with
  | p h' => exact ⟨h.1, h.2⟩
  | v h' => exact ⟨h.1, h.2⟩
  | s h' => exact ⟨h.1, h.2⟩
theorem Ok.tick {g : Gnd} (o : g.Ok) : g.tick.Ok := by
  cases g with
  | p h => exact ⟨o.k3, o.pos, o.few, o.len, fun w hw => by have := o.low w hw; show w.natAbs ≤ 1000 * (h.err + 1); omega⟩
  | v h => exact ⟨o.pos, o.few, o.len, fun w hw => by have := o.low w hw; show w.natAbs ≤ h.err + 1; omega⟩
  | s h => exact ⟨o.pos, o.few, o.two, o.five, o.len, o.lens, fun w hw x hx => by have := o.low w hw x hx; show x.natAbs ≤ 2000 * (h.err + 1); omega⟩
theorem Small.tick {g : Gnd} {e : Nat} (o : g.Small e) : g.tick.Small (e + 1) := by
  cases g with
  | p h => have : h.err ≤ errTop + e := o
           show h.err + 1 ≤ errTop + (e + 1); omega
  | v h => have : h.err ≤ 300 + e := o
           show h.err + 1 ≤ 300 + (e + 1); omega
  | s h => have : h.err ≤ errTop + e := o
           show h.err + 1 ≤ errTop + (e + 1); omega
theorem mended_kd (g : Gnd) (x : List Int) (z : Int) : (g.mended x z).kd = g.kd := by cases g <;> rfl
theorem mended_many (g : Gnd) (x : List Int) (z : Int) : (g.mended x z).many = g.many := by cases g <;> rfl
theorem mended_err (g : Gnd) (x : List Int) (z : Int) : (g.mended x z).err = g.err := by cases g <;> rfl
theorem pt_len {g : Gnd} {x : List Int} (h : g.PtOk x) : x.length = g.many := by
  cases g with
  | p h' => exact h.1
  | v h' => exact h.1
  | s h' => exact h.1
theorem ok_pos {g : Gnd} (h : g.Ok) : 0 < g.many := by
  cases g with
  | p h' => exact h.pos
  | v h' => exact h.pos
  | s h' => exact h.pos
theorem ok_few {g : Gnd} (h : g.Ok) : g.many ≤ 12 := by
  cases g with
  | p h' => exact Nat.le_trans h.few (by decide)
  | v h' => exact h.few
  | s h' => exact Nat.le_trans h.few (by decide)
theorem guess_scal (g : Gnd) (x : List Int) (n : Int) : scal (g.guess x) (.int n) = true := by
  cases g with
  | p h => show scal (guessV _) _ = true; unfold guessV; split <;> rfl
  | v h => rfl
  | s h => exact guessS_scal _ _
theorem wrong_eq {g : Gnd} {x : List Int} {z : Int} (h : g.kd ≠ 2) (hz : g.has z = true) : g.wrong x z = decide (g.guess x ≠ V.int z) := by
  cases g with
  | p h' => show h'.wrong x z = _; unfold Hnd.wrong; rw [if_neg (show ¬ h'.kd = 2 from h)]; rfl
  | v h' =>
    show decide (h'.tell x ≠ z) = decide (V.int (h'.tell x) ≠ V.int z)
    exact decide_eq_decide.mpr ⟨fun n e => n (by injection e), fun n e => n (by rw [e])⟩
  | s h' =>
    have hz' : 0 ≤ z ∧ z < h'.sides := of_decide_eq_true hz
    show decide (guessS (h'.prods x) ≠ V.int (z.toNat : Nat)) = decide (guessS (h'.prods x) ≠ V.int z)
    have e : ((z.toNat : Nat) : Int) = z := by omega
    rw [e]
theorem Ok.step {g : Gnd} {x : List Int} {z : Int} (o : g.Ok) (q : g.PtOk x) (hz : g.has z = true) : (g.step x z).Ok := by
  cases g with
  | p h => exact Hnd.Ok.step o q (of_decide_eq_true hz)
  | v h => exact Vnd.Ok.step o q (of_decide_eq_true hz)
  | s h =>
    have hz' : 0 ≤ z ∧ z < h.sides := of_decide_eq_true hz
    exact Snd.Ok.step o q (by omega)
theorem step_many (g : Gnd) (x : List Int) (z : Int) : (g.step x z).many = g.many := by
  rw [step_eq]; split
  · rw [mended_many, tick_many]
  · rfl
theorem step_kd (g : Gnd) (x : List Int) (z : Int) : (g.step x z).kd = g.kd := by
  rw [step_eq]; split
  · rw [mended_kd, tick_kd]
  · rfl
theorem step_err (g : Gnd) (x : List Int) (z : Int) : (g.step x z).err = g.err + (if g.wrong x z = true then 1 else 0) := by
  rw [step_eq]; split
  · rw [mended_err, tick_err]
  · rfl
theorem mended_has (g : Gnd) (x : List Int) (z y : Int) : (g.mended x z).has y = g.has y := by cases g <;> rfl
theorem step_has (g : Gnd) (x : List Int) (z y : Int) : (g.step x z).has y = g.has y := by
  rw [step_eq]; split
  · rw [mended_has, tick_has]
  · rfl
end Gnd
/-- what a hand holds as its weights -/
def HeldAt (H : Hp) (t : Addr) : Gnd → Prop
  | .p h => H t = some (.tup (h.ws.map V.int))
  | .v h => ∃ ts : List Addr, H t = some (.tup (ts.map V.ref)) ∧ Paired (fun a w => H a = some (.tup [.int (top2 w), .int (bot2 w)])) ts h.pw
  | .s h => ∃ ts : List Addr, H t = some (.tup (ts.map V.ref)) ∧ TsAt H ts h.ws
theorem HeldAt.map {H H' : Hp} {t : Addr} {g : Gnd} (h : HeldAt H t g) (m : ∀ a xs, H a = some (.tup xs) → H' a = some (.tup xs)) : HeldAt H' t g := by
  cases g with
  | p h' => exact m _ _ h
  | v h' => obtain ⟨ts, e, q⟩ := h; exact ⟨ts, m _ _ e, Paired.mapP q fun _ _ z => m _ _ z⟩
  | s h' => obtain ⟨ts, e, q⟩ := h; exact ⟨ts, m _ _ e, Paired.mapP q fun _ _ z => m _ _ z⟩
theorem HeldAt.tup {H : Hp} {t : Addr} {g : Gnd} (h : HeldAt H t g) : ∃ xs, H t = some (.tup xs) := by
  cases g with
  | p h' => exact ⟨_, h⟩
  | v h' => obtain ⟨ts, e, q⟩ := h; exact ⟨_, e⟩
  | s h' => obtain ⟨ts, e, q⟩ := h; exact ⟨_, e⟩
theorem HeldAt.tick {H : Hp} {t : Addr} {g : Gnd} (h : HeldAt H t g) : HeldAt H t g.tick := by cases g <;> exact h
/-- an object is written to: tuples stay -/
theorem HeldAt.upd_ins {H : Hp} {t a : Addr} {g : Gnd} {C dx C' dx' : Addr} {fs fs' : List (Str × V)} (h : HeldAt H t g) (e : H a = some (.ins C dx fs)) : HeldAt (upd H a (.ins C' dx' fs')) t g :=
  h.map fun b xs hb => by rw [upd_ne (fun z => by rw [z, e] at hb; cases hb)]; exact hb
abbrev fldNames : List Str := ["many", "held", "made", "margin", "sides"]
structure GFs (g : Gnd) (t : Addr) (fs : List (Str × V)) : Prop where
  many : fs.lookup ("many" : Str) = some (.int g.many)
  held : fs.lookup ("held" : Str) = some (.ref t)
  made : fs.lookup ("made" : Str) = some (.int g.err)
  margin : ∀ h, g = .p h → h.kd = 2 → fs.lookup ("margin" : Str) = some (.int h.mg)
  sides : ∀ h, g = .s h → fs.lookup ("sides" : Str) = some (.int h.sides)
  few : fs.length ≤ 10
  no : ∀ f : Str, f ∉ fldNames → fs.lookup f = none
structure GAt (cls : Nat → Addr) (ks : List Nat) (H : Hp) (a : Addr) (g : Gnd) : Prop where
  ex : ∃ dx fs t, H a = some (.ins (cls g.kd) dx fs) ∧ GFs g t fs ∧ HeldAt H t g
  kin : g.kd ∈ ks
  pk : ∀ h, g = .p h → h.kd < 3
abbrev Kds (cls : Nat → Addr) (ks : List Nat) : Addr → Prop := fun C => ∃ k ∈ ks, C = cls k
section
variable {cls : Nat → Addr} {ks : List Nat} {H H' : Hp} {a : Addr} {g : Gnd}
theorem GAt.map (q : GAt cls ks H a g) (i : ∀ C dx fs, H a = some (.ins C dx fs) → H' a = some (.ins C dx fs)) (m : ∀ b xs, H b = some (.tup xs) → H' b = some (.tup xs)) : GAt cls ks H' a g := by
  obtain ⟨dx, fs, t, e, F, ht⟩ := q.ex
  exact ⟨⟨dx, fs, t, i _ _ _ e, F, ht.map m⟩, q.kin, q.pk⟩
theorem GAt.same (q : GAt cls ks H a g) (s : Same H H') : GAt cls ks H' a g := q.map (fun _ _ _ h => s _ _ h) fun _ _ h => s _ _ h
theorem GAt.keep {L : List Addr} (q : GAt cls ks H a g) (k : Kp L H H') (n : a ∉ L) : GAt cls ks H' a g := q.map (fun _ _ _ h => k.but _ _ n h) fun _ _ h => k.tup h
theorem GAt.keepL {D : Addr} {xs : List V} (q : GAt cls ks H a g) (e : H D = some (.lst xs)) (o : OffD D H H') : GAt cls ks H' a g :=
  q.map (fun _ _ _ h => o _ _ (fun z => by rw [z, e] at h; cases h) h) fun _ _ h => o _ _ (fun z => by rw [z, e] at h; cases h) h
theorem GAt.ins (q : GAt cls ks H a g) : ∃ C dx fs, H a = some (.ins C dx fs) ∧ Kds cls ks C ∧ ∀ f : Str, f ∉ fldNames → fs.lookup f = none := by
  obtain ⟨dx, fs, t, e, F, ht⟩ := q.ex
  exact ⟨_, dx, fs, e, ⟨_, q.kin, rfl⟩, F.no⟩
end
theorem GFs.mended {g : Gnd} {t r : Addr} {fs : List (Str × V)} (F : GFs g t fs) (xs : List Int) (s : Int) : GFs (g.mended xs s) r (putF "held" (.ref r) fs) := by
  refine ⟨?_, ?_, ?_, fun h e k => ?_, fun h e => ?_, ?_, fun f hf => ?_⟩
  · rw [lookup_putF, if_neg (by decide +kernel), Gnd.mended_many]; exact F.many
  · rw [lookup_putF, if_pos rfl]
  · rw [lookup_putF, if_neg (by decide +kernel), Gnd.mended_err]; exact F.made
  · rw [lookup_putF, if_neg (by decide +kernel)]
    cases g with
    | p h0 => cases e; exact F.margin h0 rfl k
    | v h0 => cases e
    | s h0 => cases e
  · rw [lookup_putF, if_neg (by decide +kernel)]
    cases g with
    | p h0 => cases e
    | v h0 => cases e
    | s h0 => cases e; exact F.sides h0 rfl
  · rw [putF_len F.held]; exact F.few
  · rw [lookup_putF, if_neg (fun z => hf (by rw [z]; decide +kernel))]; exact F.no f hf
theorem GFs.ticked {g : Gnd} {t : Addr} {fs : List (Str × V)} (F : GFs g t fs) : GFs g.tick t (putF "made" (.int (g.err + 1)) fs) := by
  refine ⟨?_, ?_, ?_, fun h e k => ?_, fun h e => ?_, ?_, fun f hf => ?_⟩
  · rw [lookup_putF, if_neg (by decide +kernel), Gnd.tick_many]; exact F.many
  · rw [lookup_putF, if_neg (by decide +kernel)]; exact F.held
  · rw [lookup_putF, if_pos rfl, Gnd.tick_err]; rfl
  · rw [lookup_putF, if_neg (by decide +kernel)]
    cases g with
    | p h0 => cases e; exact F.margin h0 rfl k
    | v h0 => cases e
    | s h0 => cases e
  · rw [lookup_putF, if_neg (by decide +kernel)]
    cases g with
    | p h0 => cases e
    | v h0 => cases e
    | s h0 => cases e; exact F.sides h0 rfl
  · rw [putF_len F.made]; exact F.few
  · rw [lookup_putF, if_neg (fun z => hf (by rw [z]; decide +kernel))]; exact F.no f hf
section
variable {cls : Nat → Addr} {ks : List Nat} {H H2 : Hp} {a dx r t : Addr} {fs : List (Str × V)} {g : Gnd}
theorem GAt.held_set (q : GAt cls ks H a g) (e : H2 a = some (.ins (cls g.kd) dx fs)) (F : GFs g t fs) (xs : List Int) (s : Int) (hr : HeldAt H2 r (g.mended xs s)) : GAt cls ks (upd H2 a (.ins (cls g.kd) dx (putF "held" (.ref r) fs))) a (g.mended xs s) :=
  ⟨⟨dx, _, r, by rw [Gnd.mended_kd]; exact upd_same, F.mended xs s, hr.upd_ins e⟩, by rw [Gnd.mended_kd]; exact q.kin, fun h z => by
    cases g with
    | p h0 => cases z; exact q.pk h0 rfl
    | v h0 => cases z
    | s h0 => cases z⟩
theorem GAt.made_set (q : GAt cls ks H a g) (e : H2 a = some (.ins (cls g.kd) dx fs)) (F : GFs g t fs) (ht : HeldAt H2 t g) : GAt cls ks (upd H2 a (.ins (cls g.kd) dx (putF "made" (.int (g.err + 1)) fs))) a g.tick :=
  ⟨⟨dx, _, t, by rw [Gnd.tick_kd]; exact upd_same, F.ticked, ht.tick.upd_ins e⟩, by rw [Gnd.tick_kd]; exact q.kin, fun h z => by
    cases g with
    | p h0 => cases z; exact q.pk h0 rfl
    | v h0 => cases z
    | s h0 => cases z⟩
end
/-- hands that tell by one row of weights -/
def hI (cls : Nat → Addr) (ks : List Nat) : HandI where
  At := fun H a h => GAt cls ks H a (.p h)
  Kd := Kds cls ks
  ins := fun {H a h} q => by
    obtain ⟨C, dx, fs, e, k, n⟩ := q.ins
    exact ⟨C, dx, fs, e, k, n _ (by decide +kernel), n _ (by decide +kernel), n _ (by decide +kernel), n _ (by decide +kernel)⟩
  keep := fun {S H H' a h} q kp n => q.keep kp n
/-- hands of a kind that f makes hands of any kind -/
def gI {S : Type} (f : S → Gnd) (cls : Nat → Addr) (ks : List Nat) : HandG S where
  At := fun H a h => GAt cls ks H a (f h)
  Kd := Kds cls ks
  ins := fun {H a h} q => by
    obtain ⟨C, dx, fs, e, k, n⟩ := q.ins
    exact ⟨C, dx, fs, e, k, n _ (by decide +kernel), n _ (by decide +kernel), n _ (by decide +kernel), n _ (by decide +kernel)⟩
  keep := fun {L H H' a h} q kp n => q.keep kp n
  keepL := fun {H H' a h D xs} q e o => q.keepL e o
/-- what of the text the walk through the hands' defs asks -/
structure HTx (K : PySem.W.Frag) (cls : Nat → Addr) (ks : List Nat) : Prop where
  cl : ∀ k ∈ ks, Cls K (cls k)
  many : ∀ k ∈ ks, NoAttr K (cls k) "many"
  held : ∀ k ∈ ks, NoAttr K (cls k) "held"
  made : ∀ k ∈ ks, NoAttr K (cls k) "made"
  margin : 2 ∈ ks → NoAttr K (cls 2) "margin"
  sides : 4 ∈ ks → NoAttr K (cls 4) "sides"
  inj : ∀ k ∈ ks, ∀ l ∈ ks, cls k = cls l → k = l
section
variable (K : PySem.W.Frag) (cls : Nat → Addr) (ks : List Nat) (np ns : Addr)
def spLook : Sp := fun vs H Q E => ∃ (a p : Addr) (g : Gnd) (xs : List Int), vs = [.ref a, .ref p] ∧ GAt cls ks H a g ∧ SqT K H p (xs.map V.int) ∧ (xs.length ≠ g.many → E (.ref np) none H) ∧ (xs.length = g.many → Q .non H)
def spHas : Sp := fun vs H Q E => ∃ (a : Addr) (g : Gnd) (s : Int), vs = [.ref a, .int s] ∧ GAt cls ks H a g ∧ ∀ H', Same H H' → Q (.bl (g.has s)) H'
def spSide : Sp := fun vs H Q E => ∃ (a p : Addr) (g : Gnd) (xs : List Int), vs = [.ref a, .ref p] ∧ GAt cls ks H a g ∧ g.Ok ∧ g.Small 0 ∧ SqT K H p (xs.map V.int) ∧ g.PtOk xs ∧ ∀ H', Same H H' → Q (g.guess xs) H'
def spIM : Sp := fun vs H Q E => ∃ (a p : Addr) (g : Gnd) (xs : List Int) (s : Int), vs = [.ref a, .ref p, .int s] ∧ GAt cls ks H a g ∧ g.Ok ∧ g.Small 0 ∧ SqT K H p (xs.map V.int) ∧ g.PtOk xs ∧ g.has s = true ∧ ∀ H', Same H H' → Q (.bl (g.wrong xs s)) H'
def spMd : Sp := fun vs H Q E => ∃ (a p : Addr) (g : Gnd) (xs : List Int) (s : Int), vs = [.ref a, .ref p, .int s] ∧ GAt cls ks H a g ∧ g.Ok ∧ g.Small 1 ∧ SqT K H p (xs.map V.int) ∧ g.PtOk xs ∧ g.has s = true ∧
  ∀ H', Kp [a] H H' → GAt cls ks H' a (g.mended xs s) → Q .non H'
def spWould : Sp := fun vs H Q E => ∃ (a p : Addr) (g : Gnd) (xs : List Int) (s : Int), vs = [.ref a, .ref p, .int s] ∧ GAt cls ks H a g ∧ g.Ok ∧ g.Small 0 ∧ SqT K H p (xs.map V.int) ∧
  (xs.length ≠ g.many → ∀ H', Same H H' → E (.ref np) none H') ∧ (xs.length = g.many → g.has s = false → Bits 1900 s ∧ ∀ H', Same H H' → E (.ref ns) none H') ∧
  (xs.length = g.many → g.has s = true → g.PtOk xs ∧ ∀ H', Same H H' → Q (.bl (g.wrong xs s)) H')
def spTellsG : Sp := fun vs H Q E => ∃ (a p : Addr) (g : Gnd) (xs : List Int), vs = [.ref a, .ref p] ∧ GAt cls ks H a g ∧ g.Ok ∧ g.Small 0 ∧ SqT K H p (xs.map V.int) ∧
  (xs.length ≠ g.many → ∀ H', Same H H' → E (.ref np) none H') ∧ (xs.length = g.many → g.PtOk xs ∧ ∀ H', Same H H' → Q (g.guess xs) H')
def spPutG : Sp := fun vs H Q E => ∃ (a p : Addr) (g : Gnd) (xs : List Int) (s : Int), vs = [.ref a, .ref p, .int s] ∧ GAt cls ks H a g ∧ g.Ok ∧ g.Small 0 ∧ SqT K H p (xs.map V.int) ∧
  (xs.length ≠ g.many → ∀ H', Same H H' → E (.ref np) none H') ∧ (xs.length = g.many → g.has s = false → Bits 1900 s ∧ ∀ H', Same H H' → E (.ref ns) none H') ∧
  (xs.length = g.many → g.has s = true → g.PtOk xs ∧ ∀ H', Kp [a] H H' → GAt cls ks H' a (g.step xs s) → Q (.bl (g.wrong xs s)) H')
def spWtsG : Sp := fun vs H Q _ => ∃ (a : Addr) (g : Gnd), vs = [.ref a] ∧ GAt cls ks H a g ∧ ∀ t, HeldAt H t g → Q (.ref t) H
def spErrG : Sp := fun vs H Q _ => ∃ (a : Addr) (g : Gnd), vs = [.ref a] ∧ GAt cls ks H a g ∧ Q (.int g.err) H
/-- moved(weights, point, times) -/
def spMv : Sp := fun vs H Q _ => ∃ (a b : Addr) (ws xs : List Int) (c : Int), vs = [.ref a, .ref b, .int c] ∧ SqT K H a (ws.map V.int) ∧ SqT K H b (xs.map V.int) ∧ xs ≠ [] ∧ xs.length ≤ 900 ∧ ws.length ≤ 1000 ∧ (c = 1 ∨ c = -1) ∧ (∀ x ∈ xs, -1000 ≤ x ∧ x ≤ 1000) ∧
  ∀ r H', Same H H' → H r = none → H' r = some (.tup ((mv c ws (xs ++ [1])).map V.int)) → Q (.ref r) H'
end
/-- what the first class's making leaves -/
structure BFs (m : Nat) (t : Addr) (fs : List (Str × V)) : Prop where
  many : fs.lookup ("many" : Str) = some (.int m)
  held : fs.lookup ("held" : Str) = some (.ref t)
  made : fs.lookup ("made" : Str) = some (.int 0)
  few : fs.length ≤ 3
  no : ∀ f : Str, f ∉ (["many", "held", "made"] : List Str) → fs.lookup f = none
def spBI (cls : Nat → Addr) (ks : List Nat) : Sp := fun vs H Q _ => ∃ (x C dx : Addr) (m : Nat), vs = [.ref x, .int m] ∧ H x = some (.ins C dx []) ∧ Kds cls ks C ∧ 0 < m ∧ m ≤ 12 ∧
  ∀ H' fs t, Kp [x] H H' → H' x = some (.ins C dx fs) → BFs m t fs → H' t = some (.tup (List.replicate (m + 1) (V.int 0))) → Q .non H'
theorem BFs.gfs {m : Nat} {t : Addr} {fs : List (Str × V)} {g : Gnd} (b : BFs m t fs) (e1 : g.many = m) (e2 : g.err = 0) (e3 : ∀ h, g = .p h → h.kd ≠ 2) (e4 : ∀ h, g ≠ .s h) : GFs g t fs :=
  ⟨by rw [e1]; exact b.many, b.held, by rw [e2]; exact b.made, fun h e k => absurd k (e3 h e), fun h e => absurd e (e4 h), by have := b.few; omega, fun f hf => b.no f fun z => hf (by
    simp only [List.mem_cons, List.not_mem_nil, or_false] at z ⊢
    rcases z with z | z | z <;> simp [z])⟩
/-- the class of the object that is asked is that of the hand's kind -/
theorem kd_of {cls : Nat → Addr} {ks : List Nat} {K : PySem.W.Frag} (HT : HTx K cls ks) {k : Nat} (hk : k ∈ ks) {vs : List V} {H : Hp} (h : ∃ (a : Addr) (us : List V) (dx : Addr) (fs : List (Str × V)), vs = .ref a :: us ∧ H a = some (.ins (cls k) dx fs)) :
    ∀ a g us, vs = .ref a :: us → GAt cls ks H a g → g.kd = k := by
  intro a g us e q
  obtain ⟨a2, us2, dx, fs, e2, hi⟩ := h
  rw [e] at e2
  cases e2
  obtain ⟨dx2, fs2, t, e3, _⟩ := q.ex
  rw [hi] at e3
  have e5 := Option.some.inj e3
  injection e5 with h1 h2 h3
  exact (HT.inj _ hk _ q.kin h1).symm
/-! ### from hands of any kind to those that a law knows -/
section
variable {K : PySem.W.Frag} {cls : Nat → Addr} {ks : List Nat} {np ns : Addr} {vs : List V} {H : Hp} {Q : VK} {E : XK}
theorem tells_h (h : spTells K (hI cls ks) np vs H Q E) : spTellsG K cls ks np vs H Q E := by
  obtain ⟨a, p, h, xs, rfl, hA, ho, he, hP, hl, q1, q2⟩ := h
  exact ⟨a, p, .p h, xs, rfl, hA, ho, he, hP, q1, q2⟩
theorem put_h (h : spPut K (hI cls ks) np ns vs H Q E) : spPutG K cls ks np ns vs H Q E := by
  obtain ⟨a, p, h, xs, s, rfl, hA, ho, he, hP, hl, q1, q2, q3⟩ := h
  exact ⟨a, p, .p h, xs, s, rfl, hA, ho, he, hP, q1, fun e n => q2 e (of_decide_eq_false n), fun e y => q3 e (of_decide_eq_true y)⟩
theorem wts_h (h : spWts (hI cls ks) vs H Q E) : spWtsG cls ks vs H Q E := by
  obtain ⟨a, h, rfl, hA, q⟩ := h
  exact ⟨a, .p h, rfl, hA, fun t ht => q t H (Same.refl _) ht⟩
theorem err_h (h : spErr (hI cls ks) vs H Q E) : spErrG cls ks vs H Q E := by
  obtain ⟨a, h, rfl, hA, q⟩ := h
  exact ⟨a, .p h, rfl, hA, q H (Same.refl _)⟩
theorem tells_s (h : spTellsS K (gI Gnd.s cls ks) np vs H Q E) : spTellsG K cls ks np vs H Q E := by
  obtain ⟨a, p, h, xs, rfl, hA, ho, he, hP, hl, q1, q2⟩ := h
  exact ⟨a, p, .s h, xs, rfl, hA, ho, he, hP, q1, q2⟩
theorem put_s (h : spPutS K (gI Gnd.s cls ks) np ns vs H Q E) : spPutG K cls ks np ns vs H Q E := by
  obtain ⟨a, p, h, xs, s, rfl, hA, ho, he, hP, hl, q1, q2, q3⟩ := h
  exact ⟨a, p, .s h, xs, s, rfl, hA, ho, he, hP, q1, fun e n => q2 e (of_decide_eq_false n), fun e y => q3 e (of_decide_eq_true y)⟩
theorem wts_s (h : spWtsS (gI Gnd.s cls ks) vs H Q E) : spWtsG cls ks vs H Q E := by
  obtain ⟨a, h, rfl, hA, q⟩ := h
  refine ⟨a, .s h, rfl, hA, fun t ht => ?_⟩
  obtain ⟨ts, e1, e2⟩ := ht
  exact q t H ts (Same.refl _) e1 e2
theorem err_s (h : spErrS (gI Gnd.s cls ks) vs H Q E) : spErrG cls ks vs H Q E := by
  obtain ⟨a, h, rfl, hA, q⟩ := h
  exact ⟨a, .s h, rfl, hA, q H (Same.refl _)⟩
/-- the first class's making, of the two that have no other -/
theorem init_h {C : Addr} {kd : Nat} (hC : C = cls kd) (hk : kd ∈ ks) (h2 : kd < 2) (h : SpInit C (spNew (hI cls ks) kd) vs H Q E) : spBI cls ks vs H Q E := by
  obtain ⟨x, dx, us, H1, rfl, hx, hd, hn, rfl, m, g, e, h0, h4, q⟩ := h
  rw [if_neg (by omega)] at e
  subst e
  refine ⟨x, C, dx, m, rfl, upd_same, ⟨kd, hk, hC⟩, h0, by omega, fun H2 fs t kp hX2 F1 ht => ?_⟩
  have sm : Same H1 H2 := fun b o hb => by
    have bx : b ≠ x := ne_of_none hb hx
    have bd : b ≠ dx := ne_of_none hb hd
    exact kp.but b o (by simp; exact bx) (by rw [upd_ne bx, upd_ne bd]; exact hb)
  refine q x H2 sm hx ⟨⟨dx, fs, t, ?_, F1.gfs rfl rfl (fun h e => ?_) (fun h e => by cases e), ?_⟩, hk, fun h e => by cases e; show kd < 3; omega⟩ rfl
  · rw [hX2, hC]; rfl
  · cases e; show kd ≠ 2; omega
  · show H2 t = some (.tup ((Hnd.new kd g m).ws.map V.int))
    rw [ht]; unfold Hnd.new; simp
end
end Mw
namespace Mw
/-- the classes by their kinds -/
def clsK (C0 C1 C2 C3 C4 : PySem.Addr) : Nat → PySem.Addr
  | 0 => C0
  | 1 => C1
  | 2 => C2
  | 3 => C3
  | _ => C4
end Mw

set_option Elab.async false
set_option linter.all false
set_option maxRecDepth 100000
set_option maxHeartbeats 4000000
namespace L2
open PySem PySem.Spec PyProof.Rows

/-! ## M15. isinstance of a caught exception -/
/-- what of an exception class of the text is asked when an attribute of an instance is looked up -/
structure ExcA (K : PySem.W.Frag) (C : Addr) : Prop where
  ga : PySem.W.findIn K (.ref C) "__getattribute__" = some (some (.builtin "BaseException.__getattribute__"))
  gg : PySem.W.findIn K (.ref C) "__getattr__" = some none
  ca : PySem.W.findIn K (.ref C) "__class__" = some (some (.builtin "object.__class__"))
  sp : PySem.W.specialIn K (.builtin "object.__class__") "__get__" = some (some (.builtin "getset_descriptor.__get__"))
  tk : PySem.W.takesIn K (.builtin "object.__class__") = some true
  ob : PySem.W.mroIn K C (.type "object") = some true
  be : PySem.W.mroIn K C (.type "BaseException") = some true
section
variable {prog : Program} {w : World} {A : Around} {E : Value → Shared → Prop} {s : Shared} {K : PySem.W.Frag} {x C : Addr}
open PySem.W Builtin Builtin.ObjectAttr Builtin.Getset_descriptor in
theorem exc_class_get {R : Result → Shared → Prop} {tp : Value} (X : K.In s.heap) (L : Looks (model prog w) s.heap (typeOf (.ref x)) (.ref C)) (hm : mroIn K C (.type "object") = some true)
    (h : R (.ok (.ret (.ref C))) s) : codeAny (model prog w) A (.call (.builtin "getset_descriptor.__get__") ⟨[.builtin "object.__class__", .ref x, tp], []⟩) R s := by
  obtain ⟨hp, g, dr, t, os⟩ := s
  have L1 := looks_mroIn (M := model prog w) X hm
  refine (codeAny_call_builtin KF.slot_gs.plain KF.entry_gs (KF.slot_gs.check _ _ _ _ _ _ _ _ KF.type_class (KF.args_gs _ _ _) ?_))
  unfold Builtin.«getset_descriptor.__get__» descrGet
  rw [dga_obj]
  refine (wpAny_bind (wpAny_pure ?_))
  unfold descrGetter descrCheckInstance descrNameAndClass isInstance
  simp only [KF.owner_class]
  repeat lk
  refine ⟨Code.quiet_builtin _ (by decide +kernel), (codeAny_builtin KF.entry_class ?_)⟩
  unfold Builtin.«object.__class__» shownTypeOf
  repeat lk
  exact h
open PySem.W in
theorem exc_find {M : Model} {h : Heap} (X : K.In h) (q : ExcA K C) : Looks M h (Builtin.ObjectAttr.find (.ref x) (.ref C) "__class__") (.bind (.builtin "getset_descriptor.__get__") (.builtin "object.__class__")) := by
  have L1 := looks_findIn (M := M) X q.ca
  have L2 := looks_specialIn (M := M) X q.sp
  have L3 := looks_takesIn (M := M) X q.tk
  have L4 : Looks M h (Builtin.ObjectAttr.dataDescriptor? (some (.builtin "object.__class__")) (some (.builtin "getset_descriptor.__get__"))) (some (.builtin "getset_descriptor.__get__", .builtin "object.__class__")) := L3.andThen .now
  exact L1.andThen (L2.andThen (L4.andThen (Looks.tag .now)))
open PySem.W in
theorem exc_ga_body {tk : Tok} {Q : Fin → Shared → Prop} (X : K.In s.heap) (L : Looks (model prog w) s.heap (typeOf (.ref x)) (.ref C)) (q : ExcA K C) (h : Q (.done (.ret (.ref C))) s) :
    wpAny (model prog w) A (Builtin.«object.__getattribute__» ⟨[.ref x, .str "__class__" tk], []⟩) Q E s := by
  obtain ⟨hp, g, d, t, os⟩ := s
  have F1 := exc_find (M := model prog w) (x := x) X q
  unfold Builtin.«object.__getattribute__»
  refine wpAny_bind (wpAny_of_eq (a := (Value.ref x, [Value.str "__class__" tk])) (by rfl) ?_)
  refine wpAny_bind (wpAny_of_eq (a := ("__class__" : Str)) (by rfl) ?_)
  refine wpAny_bind (L.at (wpAny_bind (F1.at ?_)))
  show wpAny _ _ (Builtin.ObjectAttr.bindTo (.builtin "getset_descriptor.__get__") (.builtin "object.__class__") (.ref x) (.ref C)) _ _ _
  unfold Builtin.ObjectAttr.bindTo
  refine wpAny_bind (wpAny_holding (wpAny_call (exc_class_get X L q.ob ?_)))
  exact wpAny_pure h
theorem exc_check {M : Model} {nameV : Value} {Q : Unit → Shared → Prop} (L : PySem.W.Looks M s.heap (typeOf (.ref x)) (.ref C)) (LB : PySem.W.Looks M s.heap (isSubtype (.ref C) (.type "BaseException")) true) (hq : Q () s) :
    wpAny M A (checkBuiltinCall "BaseException.__getattribute__" ⟨[.ref x, nameV], []⟩) Q E s := by
  obtain ⟨hp, g, d, t, os⟩ := s
  have hk : builtinKind "BaseException.__getattribute__" = some .slot := by decide +kernel
  have hsplit : splitId "BaseException.__getattribute__" = some ("BaseException", "__getattribute__") := by decide +kernel
  have ha := F.args_bexc_ga (.ref x) nameV
  simp only [checkBuiltinCall, hk, hsplit]
  refine wpAny_bind ((L.andThen LB : PySem.W.Looks M hp (isInstance (.ref x) (.type "BaseException")) true).at ?_)
  repeat (any_goals (first | assumption | wp_step))
open PySem.W in
theorem exc_class {Q : Option Value → Shared → Prop} (X : K.In s.heap) (L : Looks (model prog w) s.heap (typeOf (.ref x)) (.ref C)) (q : ExcA K C) (h : Q (some (.ref C)) { s with toks := s.toks + 1 }) : wpAny (model prog w) A (getAttr? (.ref x) "__class__") Q E s := by
  obtain ⟨hp, g, d, t, os⟩ := s
  have L1 := looks_findIn (M := model prog w) X q.ga
  have L2 := looks_findIn (M := model prog w) X q.gg
  have L3 := looks_mroIn (M := model prog w) X q.be
  unfold getAttr? getAttrBy? getAttrBy
  refine wpAny_bind (wpAny_mkText (wpAny_bind (wpAny_attempt (wpAny_holding (wpAny_bind (L.at (wpAny_bind (L1.at ?_))))))))
  have e : (onTheHeap (Value.ref C) && Value.builtin "BaseException.__getattribute__" == Value.builtin "object.__getattribute__") = false := by
    have : (Value.builtin "BaseException.__getattribute__" == Value.builtin "object.__getattribute__") = false := by decide +kernel
    rw [this]; rfl
  dsimp only
  rw [e, if_neg Bool.false_ne_true]
  unfold getAttrByItsOwn hookBefore
  refine wpAny_bind ?_
  show wpAny _ _ (typeLookup (.ref C) "__getattr__") _ _ _
  refine L2.at ?_
  refine wpAny_bind (wpAny_attempt (wpAny_holding ?_))
  show wpAny _ _ (boundAndCalled (.builtin "BaseException.__getattribute__") (.ref x) (.str "__class__" t)) _ _ _
  unfold boundAndCalled
  refine wpAny_bind (wpAny_of_eq (F.attr_ValueError.ga.bind (.ref x)) ?_)
  show wpAny _ _ (call (.builtin "BaseException.__getattribute__") [.ref x, .str "__class__" t]) _ _ _
  refine wpAny_call (codeAny_call_builtin F.attr_ValueError.ga.plain F.entry_bexc_ga (exc_check L L3 (exc_ga_body X L q ?_)))
  exact wpAny_pure (wpAny_pure h)
theorem kitx_exc (q : ExcA K C) (hc : (PySem.W.clsIn K C).isSome = true) : PySem.W.KitX K (.ref x) (.ref C) (fun h => ∃ o, h.get? x = some o ∧ o.cls = .ref C) where
  ty := fun M h _ ⟨o, e, c⟩ => c ▸ (PySem.W.Looks.ld e).andThen .now
  it := fun M h X _ => by
    obtain ⟨cd, hcd⟩ := Option.isSome_iff_exists.mp hc
    unfold PySem.W.clsIn at hcd
    split at hcd
    · rename_i ho
      intro A' Q' E' s' k z
      unfold isType loadHead
      exact wpAny_bind (wpAny_loadPart (k _ _ (X _ _ ho)) (wpAny_pure z))
    · cases hcd
  ne := fun h tp dd its n sl X htp => by
    obtain ⟨cd, hcd⟩ := Option.isSome_iff_exists.mp hc
    refine Bool.eq_false_iff.mpr fun z => ?_
    have e : C = tp := Value.ref.inj (beq_iff_eq.mp z)
    subst e
    unfold PySem.W.clsIn at hcd
    split at hcd
    · rename_i ho
      have z2 := (X _ _ ho).symm.trans htp
      cases z2
    · cases hcd
  ca := fun X ⟨o, e, c⟩ k => exc_class X (c ▸ (PySem.W.Looks.ld e).andThen .now) q k
end
section
variable {X : Cx} {K : PySem.W.Frag}
theorem mro_cls {K : PySem.W.Frag} {C : Addr} {b : Value} {r : Bool} (e : PySem.W.mroIn K C b = some r) : (PySem.W.clsIn K C).isSome = true := by
  obtain ⟨cd, a, _⟩ := Option.bind_eq_some_iff.mp e
  rw [a]; rfl
/-- isinstance(e, c), e a caught exception -/
theorem call_isiE (hK : X.K = K) : CallR X (.builtin "isinstance") (fun xs H Q => ∃ a C c cv b, xs = [.ref a, c] ∧ clsV c = some cv ∧ H a = some (excO C a) ∧ ExcA K C ∧ PySem.W.kitOne K (.ref C) cv = some b ∧ Q (.bl b) H) := by
  subst hK
  intro pins s σ H xs us Q I r h
  obtain ⟨a, C, c, cv, b, rfl, hc, hE, hA, e, q⟩ := h
  obtain ⟨u, u', rfl, r1, r2⟩ := vals2 r
  obtain rfl : u = Value.ref a := r1
  obtain rfl := clsV_rel hc r2
  obtain ⟨⟨o, ho, hcl, _⟩, _⟩ := (show ObjOk X.prog X.w H s.heap a (excO C a) from I.hok a _ hE)
  exact PySem.W.kia_one (kitx_exc hA (mro_cls hA.ob)) I.kIn ⟨o, ho, hcl⟩ e (fun z => nomatch z) fun tk => ⟨.bl b, H, I.tok tk, rfl, q⟩
end
end L2

set_option Elab.async false
set_option linter.all false
set_option maxRecDepth 100000
set_option maxHeartbeats 4000000
namespace L2
open PySem PySem.Spec PyProof.Rows
theorem DefAt.calX {P : Program} {w : World} {K : PySem.W.Frag} {mg : Str → Option Value} {base h : Heap} {x : Str} {st : Stmt} {ps : List Str} {k : Nat} {sp : Sp} (D : DefAt K x st) (X : K.In h) (G : h.Ns mainGlobals mg) (hb : BindAt x st ps) (mk : ∀ f fd, Fun K x x st f fd → FnOk P w K mg base (CXE P w) k f fd ps sp) : CalX P w K mg base k x ps sp := by
  obtain ⟨f, oc, od, osl, kV, doc, pm, an, cdv, ct, a, l, c, kk⟩ := D.ex
  have F := fun_mk (st := st) l c kk
  exact ⟨⟨f, _, mk f _ F, PySem.W.mg_of X G a, kk, F.binds hb⟩⟩
theorem pe_cls {X : Cx} {x : Str} {C : Addr} {pos : Pos} (hg : Gl X x) (hm : X.mg x = some (.ref C)) (hd : (x == ("__debug__" : Str)) = false := by decide) : PE X (.Name x pos) (tC (.ref C)) := pe_glob hg hm rfl hd
/-- an exception class of the text, by its name -/
structure ExN (K : PySem.W.Frag) (mg : Str → Option Value) (x : Str) (C : Addr) : Prop where
  c : ExcC K C
  a : ExcA K C
  g : mg x = some (.ref C)
structure ClN (mg : Str → Option Value) (x : Str) (C : Addr) : Prop where
  g : mg x = some (.ref C)
end L2
namespace Mw
open PySem L2
/-- a fraction of two numbers; 0 as the second is refused -/
def spPart (nf : Addr) : Sp := fun vs H Q E => ∃ t b : Int, vs = [.int t, .int b] ∧ Bits 3000 t ∧ Bits 3000 b ∧ (b = 0 → E (.ref nf) none H) ∧ (b ≠ 0 → ∀ p, H p = none → Q (.ref p) (upd H p (.tup [.int (ptop t b), .int (pbot t b)])))
def spIsPart : Sp := fun vs H Q _ => ∃ (p : Addr) (t b x y : Int), vs = [.ref p, .int t, .int b] ∧ H p = some (.tup [.int x, .int y]) ∧ 0 < y ∧ Int.gcd x y = 1 ∧ x * b = t * y ∧ Bits 3000 x ∧ Bits 3000 y ∧ Bits 3000 t ∧ Bits 3000 b ∧ Q (.bl true) H
end Mw
namespace Mw
open PySem L2
theorem at0 (x y : Int) : atI [V.int x, V.int y] 0 = some (.int x) := rfl
theorem at1 (x y : Int) : atI [V.int x, V.int y] 1 = some (.int y) := rfl
def topAdd (t1 b1 t2 b2 : Int) : Int := t1 * b2 + t2 * b1
def topSub (t1 b1 t2 b2 : Int) : Int := t1 * b2 - t2 * b1
def topMul (t1 _ t2 _ : Int) : Int := t1 * t2
def botMul (_ b1 _ b2 : Int) : Int := b1 * b2
def topInto (t1 _ _ b2 : Int) : Int := t1 * b2
def botInto (_ b1 t2 _ : Int) : Int := b1 * t2
/-- a fraction of two fractions -/
def spFrac (K : PySem.W.Frag) (nf : Addr) (X Y : Int → Int → Int → Int → Int) : Sp := fun vs H Q E => ∃ (a c : Addr) (t1 b1 t2 b2 : Int), vs = [.ref a, .ref c] ∧ SqT K H a [.int t1, .int b1] ∧ SqT K H c [.int t2, .int b2] ∧ Bits 1000 t1 ∧ Bits 1000 b1 ∧ Bits 1000 t2 ∧ Bits 1000 b2 ∧
  (Y t1 b1 t2 b2 = 0 → E (.ref nf) none H) ∧ (Y t1 b1 t2 b2 ≠ 0 → ∀ p, H p = none → Q (.ref p) (upd H p (.tup [.int (ptop (X t1 b1 t2 b2) (Y t1 b1 t2 b2)), .int (pbot (X t1 b1 t2 b2) (Y t1 b1 t2 b2))])))
end Mw

set_option Elab.async false
set_option linter.all false
set_option maxRecDepth 100000
set_option maxHeartbeats 4000000
namespace L2
open PySem PySem.Spec PyProof.Rows
/-! ## M30. except C: without a name -/
def tTryN (K : PySem.W.Frag) (c : Addr) (tb : (St → XK) → TS) (ts : TS) : TS := fun D σ H =>
  tb (fun σ1 cls _ H1 => ∃ C, cls = .ref C ∧ PySem.W.exmOne K (.ref C) (.ref c) = some true ∧ ∀ a, H1 a = none → ts D σ1 (upd H1 a (excO C a))) D σ H
section
variable {X : Cx} {c : Addr} {x : Str} {np hpos pos : Pos} {body suite : List Stmt} {b0 : Stmt} {tb : (St → XK) → TS} {ts : TS}
theorem ps_tryN (hst : X.stack = X.env :: X.outer) (hfr : X.env.frame = some X.env.locals) (hg : Gl X x) (hm : X.mg x = some (.ref c)) 
    (hb : ∀ pn G, PSs (tryC X pn G) body (tb G)) (hs : ∀ pn e, PSs (hndC X pn e) (b0 :: suite) ts) (hdb : (x == ("__debug__" : Str)) = false := by decide) :
    PS X (.Try body [.ExceptHandler (some (.Name x np)) none (b0 :: suite) hpos] [] [] pos) (tTryN X.K c tb ts) := by
  intro pins s σ H D I h
  refine wpAny_Try_except ?_
  have okT : ∀ G, (tryC X (X.pn ++ pins) G).Ok := fun G => ⟨I.ok.mod, I.ok.kind, I.ok.glob, I.ok.blt, I.ok.above, I.ok.inj, I.ok.has, I.ok.cab, I.ok.hd, I.ok.frames, I.ok.stk, I.ok.exf, I.ok.bs, I.ok.bsz, I.ok.noex, I.ok.exfs, I.ok.funs, I.ok.frf⟩
  have okH : ∀ e, (hndC X (X.pn ++ pins) e).Ok := fun e => ⟨I.ok.mod, I.ok.kind, I.ok.glob, I.ok.blt, I.ok.above, I.ok.inj, I.ok.has, I.ok.cab, fun z => (Bool.noConfusion z), I.ok.frames, I.ok.stk, I.ok.exf, I.ok.bs, I.ok.bsz, I.ok.noex, I.ok.exfs, I.ok.funs, I.ok.frf⟩
  have I0 : ∀ G, Inv (tryC X (X.pn ++ pins) G) [] σ H s := fun G => I.like (Y := tryC X (X.pn ++ pins) G) (okT G) rfl rfl rfl rfl rfl rfl rfl rfl fun p hp => I.pin p (by simpa [tryC] using hp)
  refine wpAny_mono (hb (X.pn ++ pins) _ [] s σ H D (I0 _) h) (fun f s1 q => ?_) (fun ev s1 q => ?_)
  · cases f with
    | next =>
      obtain ⟨σ', H', J, q⟩ := q
      exact wpAny_execs_nil ⟨σ', H', J.like (Y := X) I.ok rfl rfl rfl rfl rfl rfl rfl rfl fun p hp => J.pin p (by simpa [tryC] using hp), q⟩
    | brk =>
      obtain ⟨σ', H', J, q⟩ := q
      exact ⟨σ', H', J.like (Y := X) I.ok rfl rfl rfl rfl rfl rfl rfl rfl fun p hp => J.pin p (by simpa [tryC] using hp), q⟩
    | cont =>
      obtain ⟨σ', H', J, q⟩ := q
      exact ⟨σ', H', J.like (Y := X) I.ok rfl rfl rfl rfl rfl rfl rfl rfl fun p hp => J.pin p (by simpa [tryC] using hp), q⟩
    | ret u =>
      obtain ⟨v, σ', H', J, r, q⟩ := q
      exact ⟨v, σ', H', J.like (Y := X) I.ok rfl rfl rfl rfl rfl rfl rfl rfl fun p hp => J.pin p (by simpa [tryC] using hp), r, q⟩
  · obtain ⟨σ1, H1, s0, J, e, C, a0, B, H', rfl, os, bare, un, hok, fl, hT, hB, he, C', hC, hx, hts⟩ := q
    cases hC
    have he' : H' e = none := by
      cases q : H' e with
      | none => rfl
      | some u =>
        obtain ⟨o, z⟩ := hT e u q
        rw [fl.2.1] at z; cases z
    have hfrm : X.A.frames = some (X.env :: X.outer) := by rw [← hst]; exact I.ok.frames
    have fl0 : Heap.FlyingW B (X.env :: X.outer) e (.ref C) a0 s1.heap := by rw [← hst]; exact fl
    have toH : ∀ {σ2 : St} {H2 : Hp} {s2 : Shared}, Inv { X with pn := X.pn ++ pins, xe := fun _ _ => False } [] σ2 H2 s2 → Inv (hndC X (X.pn ++ pins) e) [] σ2 H2 s2 := fun {σ2 H2 s2} L =>
      L.like (Y := hndC X (X.pn ++ pins) e) (okH e) rfl rfl rfl rfl rfl rfl rfl rfl fun p hp => L.pin p (by simpa [hndC] using hp)
    have toX : ∀ {σ2 : St} {H2 : Hp} {s2 : Shared}, Inv (hndC X (X.pn ++ pins) e) [] σ2 H2 s2 → Inv X pins σ2 H2 s2 := fun {σ2 H2 s2} L =>
      L.like (Y := X) I.ok rfl rfl rfl rfl rfl rfl rfl rfl fun p hp => L.pin p (by simpa [hndC] using hp)
    have land : ∀ h', Heap.FlyingW B (X.env :: X.outer) e (.ref C) a0 h' → s1.heap.UpToSlots h' → Inv (hndC X (X.pn ++ pins) e) [] σ1 (upd H' e (excO C e)) { s1 with heap := h' } := fun h' f u =>
      toH (land_inv J os bare un hok fl.1 (by show Heap.FlyingW B X.stack e (.ref C) a0 h'; rw [hst]; exact f) u hT hB he)
    refine wpAny_looks_onW hfrm hfr fl0 fun h4 held4 up4 => ?_
    refine wpAny_landsW held4 fun h5 fl5 up5 => ?_
    have K5 := land h5 fl5 (up4.trans up5)
    refine wpAny_handleBy_cons (codeAny_handlers_test (ld_glob (X := hndC X (X.pn ++ pins) e) K5 hg hm ?_ hdb)) (by intro q; cases q)
    have LT : PySem.W.Looks (model X.prog X.w) h5 (typeOf (.ref e)) (.ref C) := by
      obtain ⟨ob, hob, hcl⟩ := fl5.there
      exact hcl ▸ (PySem.W.Looks.ld hob).andThen .now
    refine (PySem.W.exm_one (K := X.K) K5.kIn LT hx).here ?_
    refine codeAny_handlers_suite ?_
    refine lands_againW fl5 fun h6 fl6 up6 => ?_
    have K6 := land h6 fl6 (up4.trans (up5.trans up6))
    refine wpAny_mono (hs (X.pn ++ pins) e [] _ σ1 _ D K6 (hts e he')) (fun f s8 q8 => ?_) (fun _ _ z => z.elim)
    cases f with
    | next =>
      obtain ⟨σ8, H8, K8, q8⟩ := q8
      exact ⟨_, _, toX K8, q8⟩
    | brk =>
      obtain ⟨σ8, H8, K8, q8⟩ := q8
      exact ⟨_, _, toX K8, q8⟩
    | cont =>
      obtain ⟨σ8, H8, K8, q8⟩ := q8
      exact ⟨_, _, toX K8, q8⟩
    | ret u =>
      obtain ⟨v, σ8, H8, K8, r, q8⟩ := q8
      exact ⟨v, _, _, toX K8, r, q8⟩
end
/-! ## M31. defs with defaults -/
structure FunD (K : PySem.W.Frag) (x qual : Str) (st : Stmt) (T : Addr) (ds : List Value) (f : Addr) (fd : FuncData) : Prop where
  ex : ∃ (oc : Value) (od : Option Addr) (kV doc pm : Value) (an : Option Addr) (cdv ct : Value) (osl : Array (Option Value)),
    fd = PySem.W.fnOf x qual (defArgs st) (defBody st) (defScope st) (.ref T) kV doc pm an cdv ct ∧ K.lookup f = some ⟨oc, od, .func fd, osl⟩ ∧ PySem.W.codeIn K cdv qual = true
  tu : ∃ (o : Obj) (n : Nat), K.lookup T = some o ∧ o.data = .seq ds.toArray n
  kp : PySem.W.keepIn K (.ref f) = true
theorem FunD.okX {P : Program} {w : World} {K : PySem.W.Frag} {mg : Str → Option Value} {base : Heap} {x qual : Str} {st : Stmt} {T : Addr} {ds : List Value} {f : Addr} {fd : FuncData} {N ps : List Str} {k : Nat} {sp : Sp} (F : FunD K x qual st T ds f fd) (S : FnScope N ps (defScope st)) (len : ∀ vs H Q E, sp vs H Q E → vs.length = ps.length)
    (hbody : ∀ (cdv : Value) (A : Around) (outer : List Env) (s : Shared) (H : Hp) (vs : List V) (Q : VK) (E : XK), Room k (A.deeper (envOfC qual (defScope st) s.heap.objs.size f cdv)) → sp vs H Q E →
      ∃ t, PSs (cxOf (CXE P w) P w K mg base N qual (defScope st) f cdv A outer s H E) (defBody st) t ∧ t { nx := fun _ H' => Q .non H', rt := Q } (start N vs) H) : FnOk P w K mg base (CXE P w) (k + 1) f fd ps sp := by
  obtain ⟨oc, od, kV, doc, pm, an, cdv, ct, osl, rfl, lk, hcd⟩ := F.ex
  exact fn_of lk hcd S len fun A outer s H vs Q E hr hsp => hbody cdv A outer s H vs Q E hr hsp
/-- how us are bound, the defaults ds being at hand: ps.zip vs -/
def BindD (x : Str) (st : Stmt) (ds : List Value) (us : List Value) (kw : List (Str × Value)) (bs : List (Str × Value)) : Prop := ∀ (T : Addr) (kV doc pm : Value) (an : Option Addr) (cdv ct : Value),
  ∃ k, bindArgs (PySem.W.fnOf x x (defArgs st) (defBody st) (defScope st) (.ref T) kV doc pm an cdv ct) ⟨us, kw⟩ = seqItems? (.ref T) >>= k ∧ k (some ds.toArray) = pure bs
theorem FunD.bindsTo {K : PySem.W.Frag} {x : Str} {st : Stmt} {T : Addr} {ds : List Value} {f : Addr} {fd : FuncData} (F : FunD K x x st T ds f fd) {us : List Value} {kw bs : List (Str × Value)} (h : BindD x st ds us kw bs) {s : Shared} (X : K.In s.heap) : BindsTo s fd ⟨us, kw⟩ bs := by
  obtain ⟨oc, od, kV, doc, pm, an, cdv, ct, osl, rfl, lk, hcd⟩ := F.ex
  obtain ⟨o, n, ht, hd⟩ := F.tu
  obtain ⟨k, h1, h2⟩ := h T kV doc pm an cdv ct
  exact .of_defaults (T := T) rfl (X _ _ ht) hd h1 h2
structure DefAtD (K : PySem.W.Frag) (x : Str) (st : Stmt) (vs : List V) : Prop where
  ex : ∃ (f T : Addr) (fd : FuncData) (ds : List Value), PySem.W.nsIn K mainGlobals x = some (some (.ref f)) ∧ FunD K x x st T ds f fd ∧ Vals vs ds
theorem defAtD {K : PySem.W.Frag} {x : Str} {st : Stmt} {f T : Addr} {oc tc : Value} {od td : Option Addr} {osl tsl : Array (Option Value)} {kV doc pm : Value} {an : Option Addr} {cdv ct : Value} {its : Array Value} {n : Nat} {vs : List V} (a : PySem.W.nsIn K mainGlobals x = some (some (.ref f)))
    (l : K.lookup f = some ⟨oc, od, .func (PySem.W.fnOf x x (defArgs st) (defBody st) (defScope st) (.ref T) kV doc pm an cdv ct), osl⟩) (t : K.lookup T = some ⟨tc, td, .seq its n, tsl⟩) (c : PySem.W.codeIn K cdv x = true) (k : PySem.W.keepIn K (.ref f) = true) (hv : ∃ ds : List Value, its = ds.toArray ∧ Vals vs ds) : DefAtD K x st vs := by
  obtain ⟨ds, e, hv⟩ := hv
  exact ⟨⟨f, T, _, ds, a, ⟨⟨oc, od, kV, doc, pm, an, cdv, ct, osl, rfl, l, c⟩, ⟨_, n, t, by rw [e]⟩, k⟩, hv⟩⟩
/-- all arguments are given -/
theorem DefAtD.calX {P : Program} {w : World} {K : PySem.W.Frag} {mg : Str → Option Value} {base h : Heap} {x : Str} {st : Stmt} {dv : V} {ps : List Str} {k : Nat} {sp : Sp} (D : DefAtD K x st [dv]) (X : K.In h) (G : h.Ns mainGlobals mg) (hb : ∀ d us, us.length = ps.length → BindD x st [d] us [] (ps.zip us))
    (mk : ∀ T ds f fd, FunD K x x st T ds f fd → FnOk P w K mg base (CXE P w) k f fd ps sp) : CalX P w K mg base k x ps sp := by
  obtain ⟨f, T, fd, ds, a, F, hv⟩ := D.ex
  refine ⟨⟨f, fd, mk _ _ _ _ F, PySem.W.mg_of X G a, F.kp, fun s us hK hl => ?_⟩⟩
  rw [List.append_nil] at hl ⊢
  obtain ⟨d, rfl, _⟩ := vals1 hv
  exact F.bindsTo (hb d us hl) hK
end L2
namespace L2
open PySem PySem.Spec PyProof.Rows
/-- x is not True, x is not False -/
theorem op_isnotB {X : Cx} : OpR X (compareOp .IsNot) (fun x y H Q => ∃ b c, x = .bl b ∧ y = .bl c ∧ Q (.bl (!(b == c))) H) := by
  intro pins s σ H x y v u Q I rx ry h
  obtain ⟨b, c, rfl, rfl, q⟩ := h
  cases rx
  cases ry
  refine wpAny_isNot_plain rfl ⟨.bl (!(b == c)), H, I, ?_, q⟩
  cases b <;> cases c <;> rfl
end L2

set_option Elab.async false
set_option linter.all false
set_option maxRecDepth 100000
set_option maxHeartbeats 4000000
namespace Mw
open PySem L2
/-! ### heaps in which the objects S and the list c have changed -/
structure KpL (S : List Addr) (c : Addr) (H H' : Hp) : Prop where
  old : ∀ b o, b ≠ c → H b = some o → NotIns o → H' b = some o
  but : ∀ b o, b ∉ S → b ≠ c → H b = some o → H' b = some o
  has : ∀ b, H b ≠ none → H' b ≠ none
section
variable {K : PySem.W.Frag} {S : List Addr} {H H' H'' : Hp} {a c : Addr} {xs ys : List V}
theorem KpL.of (h : Kp S H H') : KpL S c H H' := ⟨fun b o _ e n => h.old b o e n, fun b o n _ e => h.but b o n e, h.has⟩
theorem KpL.refl : KpL S c H H := KpL.of Kp.refl
theorem KpL.trans (h1 : KpL S c H H') (h2 : KpL S c H' H'') : KpL S c H H'' := ⟨fun b o m h n => h2.old b o m (h1.old b o m h n) n, fun b o n m h => h2.but b o n m (h1.but b o n m h), fun b h => h2.has b (h1.has b h)⟩
theorem KpL.upd {o : HO} (h : KpL S c H H') : KpL S c H (upd H' c o) := by
  refine ⟨fun b u m hb n => ?_, fun b u n m hb => ?_, fun b hb => ?_⟩
  · rw [upd_ne m]; exact h.old b u m hb n
  · rw [upd_ne m]; exact h.but b u n m hb
  · by_cases z : b = c
    · rw [z, upd_same]; simp
    · rw [upd_ne z]; exact h.has b hb
theorem KpL.kp (h : KpL S c H' H'') (s : Same H H') (n : H c = none) : Kp S H H'' :=
  ⟨fun b o e m => h.old b o (ne_of_none e n) (s _ _ e) m, fun b o m e => h.but b o m (ne_of_none e n) (s _ _ e), fun b e => h.has b (by
    cases q : H b with
    | none => exact absurd q e
    | some o => rw [s _ _ q]; simp)⟩
theorem KpL.seqT (h : KpL S c H H') (hc : H c = some (.lst ys)) (e : SqT K H a xs) : SqT K H' a xs := by
  rcases e with (e | ⟨o, e⟩) | e
  · exact .inl (.inl (h.old _ _ (fun z => by rw [z, hc] at e; cases e) e True.intro))
  · exact .inl (.inr ⟨o, h.old _ _ (fun z => by rw [z, hc] at e; cases e) e True.intro⟩)
  · exact .inr e
theorem KpL.seq (h : KpL S c H H') (hc : a ≠ c) (e : SqL K H a xs) : SqL K H' a xs := by
  rcases e with (e | ⟨o, e⟩) | e
  · exact .inl (.inl (h.old _ _ hc e True.intro))
  · exact .inl (.inr ⟨o, h.old _ _ hc e True.intro⟩)
  · exact .inr e
theorem KpL.rows {as : List Addr} {rs : List (List Int × Int)} (h : KpL S c H H') (hc : H c = some (.lst ys)) (e : RowsAt K H as rs) : RowsAt K H' as rs := Paired.mapP e fun _ _ ⟨p, q1, q2⟩ => ⟨p, h.seqT hc q1, h.seqT hc q2⟩
end
/-! ### runs -/
abbrev numsV (bk : List Nat) : List V := bk.map fun n : Nat => V.int (n : Int)
/-- what holds ahead of the i-th row of a run, the hand and the book so far -/
structure RunJ (rs : List (List Int × Int)) (most : Int) (J : Nat → Gnd → List Nat → Prop) : Prop where
  ok : ∀ i g bk, J i g bk → g.Ok ∧ g.Small 0
  row : ∀ i g bk r, J i g bk → rs[i]? = some r → g.PtOk r.1 ∧ g.has r.2 = true
  right : ∀ i g bk r, J i g bk → rs[i]? = some r → g.wrong r.1 r.2 = false → J (i + 1) g bk
  mist : ∀ i g bk r, J i g bk → rs[i]? = some r → g.wrong r.1 r.2 = true → (bk.length : Int) < most → J (i + 1) (g.step r.1 r.2) (bk ++ [i])
  again : ∀ g bk, J rs.length g bk → J 0 g bk
section
variable (K : PySem.W.Frag) (cls : Nat → Addr) (ks : List Nat) (tm : Addr)
def spOnce : Sp := fun vs H Q E => ∃ (a b c : Addr) (as : List Addr) (rs : List (List Int × Int)) (most : Int) (g : Gnd) (bk : List Nat) (J : Nat → Gnd → List Nat → Prop), vs = [.ref a, .ref b, .int most, .ref c] ∧ GAt cls ks H a g ∧ SqL K H b (as.map V.ref) ∧ b ≠ c ∧ RowsAt K H as rs ∧ rs.length ≤ 200 ∧
  H c = some (.lst (numsV bk)) ∧ (bk.length : Int) ≤ most ∧ most ≤ 9000 ∧ RunJ rs most J ∧ J 0 g bk ∧
  (∀ g' bk' H', KpL [a] c H H' → GAt cls ks H' a g' → H' c = some (.lst (numsV bk')) → J rs.length g' bk' → bk.length ≤ bk'.length → (bk'.length : Int) ≤ most → (bk'.length = bk.length → g' = g ∧ bk' = bk ∧ ∀ r ∈ rs, g.wrong r.1 r.2 = false) → Q .non H') ∧
  (∀ i g' bk' r H', KpL [a] c H H' → GAt cls ks H' a g' → J i g' bk' → rs[i]? = some r → g'.wrong r.1 r.2 = true → (bk'.length : Int) = most → E (.ref tm) none H')
def spRun : Sp := fun vs H Q E => ∃ (a b : Addr) (as : List Addr) (rs : List (List Int × Int)) (most : Int) (g : Gnd) (J : Nat → Gnd → List Nat → Prop), vs = [.ref a, .ref b, .int most] ∧ GAt cls ks H a g ∧ H b = some (.lst (as.map V.ref)) ∧ RowsAt K H as rs ∧ rs.length ≤ 200 ∧ 0 ≤ most ∧ most ≤ 9000 ∧ RunJ rs most J ∧ J 0 g [] ∧
  (∀ g' bk r H', Kp [a] H H' → GAt cls ks H' a g' → H r = none → H' r = some (.lst (numsV bk)) → J 0 g' bk → (bk.length : Int) ≤ most → (∀ r ∈ rs, g'.wrong r.1 r.2 = false) → Q (.ref r) H') ∧
  (∀ i g' bk r H', Kp [a] H H' → GAt cls ks H' a g' → J i g' bk → rs[i]? = some r → g'.wrong r.1 r.2 = true → (bk.length : Int) = most → E (.ref tm) none H')
end
end Mw

set_option Elab.async false
set_option linter.all false
set_option maxRecDepth 100000
set_option maxHeartbeats 4000000
namespace L2
open PySem PySem.Spec PyProof.Rows
/-! ## M16. a, b = a list -/
section
variable {prog : Program} {w : World} {A : Around} {E : Value → Shared → Prop} {s : Shared}
theorem draw_lst {it l : Addr} {its : Array Value} (hne : l ≠ it) : ∀ (n i : Nat) (s : Shared) (Q : List Value → Shared → Prop), s.heap.IsListIter it l i → s.heap.IsList l its → i + n ≤ its.size →
    (∀ g, g.IsListIter it l (i + n) → Heap.SameBut it s.heap g → Q ((its.toList.drop i).take n) { s with heap := g }) → wpAny (model prog w) A (draw (.ref it) n) Q E s
  | 0, i, s, Q, hit, _, _, hQ => by
    show wpAny _ _ (pure []) Q E s
    exact wpAny_pure (by simpa using hQ s.heap hit (Heap.SameBut.refl ..))
  | n + 1, i, s, Q, hit, hl, hle, hQ => by
    have hlt : i < its.size := by omega
    show wpAny _ _ (pyNext (.ref it) >>= _) Q E s
    refine wpAny_bind (wpAny_pyNext_list_item hit hl (x := its[i]) (by simp [hlt]) fun g1 j1 e1 => ?_)
    refine wpAny_bind (wpAny_holding (draw_lst hne n (i + 1) _ _ j1 (hl.extBut e1.extBut hne) (by omega) fun g2 j2 e2 => wpAny_pure ?_))
    have hd : its.toList.drop i = its[i] :: its.toList.drop (i + 1) := by simp [List.drop_eq_getElem_cons, hlt]
    have z := hQ g2 (by rw [show i + (n + 1) = i + 1 + n by omega]; exact j2) (e1.trans e2)
    rw [hd, List.take_succ_cons] at z
    exact z
theorem unpack_lst {l : Addr} {its : Array Value} {targets : List (Bool × (Value → Sem Unit))} {Q : Unit → Shared → Prop} (hh : A.handled = none) (hl : s.heap.IsList l its) (hn : targets.length = its.size) (hstar : targets.findIdx? (·.1) = none)
    (h : ∀ g, Heap.ExtBut s.heap.objs.size s.heap g → wpAny (model prog w) A (assignInOrder (targets.map (·.2)) its.toList) Q E { s with heap := g }) : wpAny (model prog w) A (unpack (.ref l) targets) Q E s := by
  have hlt : l ≠ s.heap.objs.size := by obtain ⟨o, ho, _⟩ := hl; exact Nat.ne_of_lt (Heap.lt_size ho)
  unfold unpack
  rw [hn, hstar]
  refine wpAny_bind (wpAny_holding ?_)
  unfold unpackItems
  refine wpAny_bind ?_
  unfold notIterableAtAll
  refine wpAny_bind (wpAny_specialOf hl.typeIs slot_list_iter.lookup (wpAny_pure ?_))
  simp only [Bool.false_eq_true, if_false]
  refine wpAny_bind (wpAny_holding (wpAny_pyIter_list hl ?_))
  refine wpAny_bind (wpAny_holding (draw_lst hlt its.size 0 _ _ ⟨_, Heap.get?_push_size _ rfl, rfl, rfl⟩ (hl.push _) (by omega) fun g1 j1 e1 => ?_))
  have hall : List.take its.size (List.drop 0 its.toList) = its.toList := by
    rw [List.drop_zero]; exact List.take_of_length_le (by simp)
  rw [hall, if_neg (by simp)]
  refine wpAny_bind (wpAny_holding (wpAny_pyNext_list_end hh j1 ((hl.push _).extBut e1.extBut hlt) (by simp) fun g2 e2 => ?_))
  simp only [Option.isSome_none, Bool.false_eq_true, if_false]
  exact wpAny_pure (h g2 fun b o hb e => e2 b o hb (e1.extBut b o hb (Heap.get?_push_of_some _ e)))
end
def gLst (K : PySem.W.Frag) (n : Nat) (t : TGs) : TG := fun v σ H Q => ∃ a xs, v = .ref a ∧ SqL K H a xs ∧ xs.length = n ∧ t xs σ H Q
theorem pg_lstK {X : Cx} {K : PySem.W.Frag} {pos : Pos} {es : List Expr} {k : Nat} {t : TGs} {n : Nat} (hK : X.K = K) (hc : X.calm = true) (h : PGs X es t)
    (hn : (assignEach es X.env).length = n := by rfl) (hst : (assignEach es X.env).findIdx? (·.1) = none := by rfl) : PG X (.Tuple es k pos) (gLst K n t) := by
  subst hK
  intro pins s σ H v u Q I r hw
  obtain ⟨a, xs, e1, hq, hl, hw⟩ := hw
  subst e1
  cases r
  obtain ⟨its, rv, p, hz⟩ := I.list hq
  rw [PyProof.Rows.assign_Tuple]
  refine wpAny_bind (wpAny_standAt (unpack_lst (I.ok.hd hc) p.isList (by simp [hn, ← hl, rv.length]) hst fun g hx => ?_))
  have I1 : Inv X pins σ H { s with heap := g } := I.kept (t' := s.toks) fun b o e => hx b o (Nat.ne_of_lt (Heap.lt_size e)) e
  exact h pins _ σ H xs _ Q I1 (by simpa using rv) hw
end L2

set_option Elab.async false
set_option linter.all false
set_option maxRecDepth 100000
set_option maxHeartbeats 4000000
namespace L2
open PySem PySem.Spec PyProof.Rows
/-! ## M28. == and != of lists and tuples of lists and tuples, alike -/
def Deep (K : PySem.W.Frag) (H : Hp) : Nat → V → V → Prop
  | 0, x, y => x = y ∧ plainV x = true
  | n + 1, x, y => (x = y ∧ plainV x = true) ∨ ∃ a b xs ys, x = .ref a ∧ y = .ref b ∧ ((SqL K H a xs ∧ SqL K H b ys) ∨ (SqT K H a xs ∧ SqT K H b ys)) ∧ Paired (Deep K H n) xs ys
theorem Deep.same {K : PySem.W.Frag} {H : Hp} {n : Nat} {x : V} (h : plainV x = true) : Deep K H n x x := by
  cases n with
  | zero => exact ⟨rfl, h⟩
  | succ n => exact .inl ⟨rfl, h⟩
theorem Deep.all {K : PySem.W.Frag} {H : Hp} {n : Nat} : ∀ {xs : List V}, xs.all plainV = true → Paired (Deep K H n) xs xs
  | [], _ => .nil
  | x :: xs, h => by
    rw [List.all_cons, Bool.and_eq_true] at h
    exact .cons (Deep.same h.1) (Deep.all h.2)
theorem all_true (k : Nat) : ((List.range k).all fun _ => true) = true := by simp
theorem Room.units8 {k : Nat} {A : Around} (r : Room k A) : A.units + 8 < cLine := by have := r.units; omega
section
variable {X : Cx} {K : PySem.W.Frag} {pins : List (Addr × Obj)} {σ : St} {H : Hp} {s : Shared}
theorem deep_vals {n : Nat} {A : Around} {xs ys : List V} {its jts : List Value} (ih : ∀ {x y : V} {u v : Value}, Deep K H n x y → RelV x u → RelV y v → SeqAt.EqAt A s u v true) (p : Paired (Deep K H n) xs ys) (r1 : Vals xs its) (r2 : Vals ys jts) :
    its.length = jts.length ∧ ∀ j (h1 : j < its.toArray.size) (h2 : j < jts.toArray.size), SeqAt.EqAt A s its.toArray[j] jts.toArray[j] true := by
  have l1 := r1.length
  have l2 := r2.length
  have l3 := Paired.length p
  refine ⟨by omega, fun j h1 h2 => ?_⟩
  have g1 : j < its.length := by simpa using h1
  have g2 : j < jts.length := by simpa using h2
  obtain ⟨y, hy, d⟩ := Mw.paired_get p (i := j) (a := xs[j]'(by omega)) (List.getElem?_eq_getElem (by omega))
  have ey : y = ys[j]'(by omega) := by
    rw [List.getElem?_eq_getElem (by omega)] at hy
    exact (Option.some.inj hy).symm
  subst ey
  exact ih d (vals_at r1 (by omega) g1) (vals_at r2 (by omega) g2)
theorem deep_eqAt (hK : X.K = K) (I : Inv X pins σ H s) : ∀ (n : Nat) {A : Around} {x y : V} {u v : Value}, A.units + n < cLine → Deep K H n x y → RelV x u → RelV y v → SeqAt.EqAt A s u v true := by
  subst hK
  have flat : ∀ {A : Around} {x y : V} {u v : Value}, (x = y ∧ plainV x = true) → RelV x u → RelV y v → SeqAt.EqAt A s u v true := by
    intro A x y u v h r1 r2
    obtain ⟨rfl, hp⟩ := h
    exact eqAt_rel r1 r2 (fun z e => by rw [e] at hp; cases hp) (fun z e => by rw [e] at hp; cases hp)
  intro n
  induction n with
  | zero => intro A x y u v _ h r1 r2; exact flat h r1 r2
  | succ n ih =>
    intro A x y u v hu h r1 r2
    rcases h with h | ⟨a, b, xs, ys, rfl, rfl, hq, p⟩
    · exact flat h r1 r2
    · cases r1
      cases r2
      by_cases hab : a = b
      · subst hab; exact SeqAt.EqAt.same _
      · refine SeqAt.EqAt.of_refs hab ?_
        rcases hq with ⟨ha, hb⟩ | ⟨ha, hb⟩
        · obtain ⟨its, r1, p1, _⟩ := I.list ha
          obtain ⟨jts, r2, p2, _⟩ := I.list hb
          obtain ⟨hl, he⟩ := deep_vals (A := A.in1) (fun d q1 q2 => ih (by show A.units + 1 + n < cLine; omega) d q1 q2) p r1 r2
          have z := SeqAt.RcAt.lists (e := fun _ => true) p1.isList p2.isList (by simpa using hl) (by omega) he
          rw [all_true] at z
          exact z
        · obtain ⟨its, r1, p1, _⟩ := I.tuple ha
          obtain ⟨jts, r2, p2, _⟩ := I.tuple hb
          obtain ⟨hl, he⟩ := deep_vals (A := A.in1) (fun d q1 q2 => ih (by show A.units + 1 + n < cLine; omega) d q1 q2) p r1 r2
          have z := SeqAt.RcAt.tuples (e := fun _ => true) p1 p2 (by omega) he
          rw [all_true, Bool.true_and, List.size_toArray, List.size_toArray, hl, beq_self_eq_true] at z
          exact z
/-- alike, by == -/
theorem op_eqDeep (n : Nat) (hK : X.K = K) (hu : X.A.units + 8 < cLine) (hn : n ≤ 7) : OpR X (compareOp .Eq) (fun x y H Q => (∃ a b xs ys, x = .ref a ∧ y = .ref b ∧ ((SqL K H a xs ∧ SqL K H b ys) ∨ (SqT K H a xs ∧ SqT K H b ys)) ∧ Paired (Deep K H n) xs ys) ∧ Q (.bl true) H) := by
  subst hK
  intro pins s σ H x y v u Q I rx ry h
  obtain ⟨⟨a, b, xs, ys, rfl, rfl, hq, p⟩, q⟩ := h
  cases rx
  cases ry
  rcases hq with ⟨ha, hb⟩ | ⟨ha, hb⟩
  · obtain ⟨its, r1, p1, _⟩ := I.list ha
    obtain ⟨jts, r2, p2, _⟩ := I.list hb
    obtain ⟨hl, he⟩ := deep_vals (A := X.A.in1) (fun d q1 q2 => deep_eqAt rfl I n (by show X.A.units + 1 + n < cLine; omega) d q1 q2) p r1 r2
    refine SeqAt.RcAt.lists (e := fun _ => true) p1.isList p2.isList (by simpa using hl) (by omega) he _ _ _ _ ?_
    have e : ((List.range its.toArray.size).all fun _ => true) = true := by simp
    rw [e]
    exact ⟨.bl true, H, I, rfl, q⟩
  · obtain ⟨its, r1, p1, _⟩ := I.tuple ha
    obtain ⟨jts, r2, p2, _⟩ := I.tuple hb
    obtain ⟨hl, he⟩ := deep_vals (A := X.A.in1) (fun d q1 q2 => deep_eqAt rfl I n (by show X.A.units + 1 + n < cLine; omega) d q1 q2) p r1 r2
    refine SeqAt.RcAt.tuples (e := fun _ => true) p1 p2 (by omega) he _ _ _ _ ?_
    have e : ((List.range (min its.toArray.size jts.toArray.size)).all (fun _ => true) && its.toArray.size == jts.toArray.size) = true := by simp [hl]
    rw [e]
    exact ⟨.bl true, H, I, rfl, q⟩
/-- alike, by != -/
theorem op_neDeep (n : Nat) (hK : X.K = K) (hu : X.A.units + 8 < cLine) (hn : n ≤ 7) : OpR X (compareOp .NotEq) (fun x y H Q => (∃ a b xs ys, x = .ref a ∧ y = .ref b ∧ ((SqL K H a xs ∧ SqL K H b ys) ∨ (SqT K H a xs ∧ SqT K H b ys)) ∧ Paired (Deep K H n) xs ys) ∧ Q (.bl false) H) := by
  subst hK
  intro pins s σ H x y v u Q I rx ry h
  obtain ⟨⟨a, b, xs, ys, rfl, rfl, hq, p⟩, q⟩ := h
  cases rx
  cases ry
  rcases hq with ⟨ha, hb⟩ | ⟨ha, hb⟩
  · obtain ⟨its, r1, p1, _⟩ := I.list ha
    obtain ⟨jts, r2, p2, _⟩ := I.list hb
    obtain ⟨hl, he⟩ := deep_vals (A := X.A.in1) (fun d q1 q2 => deep_eqAt rfl I n (by show X.A.units + 1 + n < cLine; omega) d q1 q2) p r1 r2
    refine SeqAt.RcNeAt.lists (e := fun _ => true) p1.isList p2.isList (by simpa using hl) (by omega) he _ _ _ _ ?_
    have e : (!(List.range its.toArray.size).all fun _ => true) = false := by simp
    rw [e]
    exact ⟨.bl false, H, I, rfl, q⟩
  · obtain ⟨its, r1, p1, _⟩ := I.tuple ha
    obtain ⟨jts, r2, p2, _⟩ := I.tuple hb
    obtain ⟨hl, he⟩ := deep_vals (A := X.A.in1) (fun d q1 q2 => deep_eqAt rfl I n (by show X.A.units + 1 + n < cLine; omega) d q1 q2) p r1 r2
    refine SeqAt.RcNeAt.tuples (e := fun _ => true) p1 p2 (by omega) he _ _ _ _ ?_
    have e : (!((List.range (min its.toArray.size jts.toArray.size)).all (fun _ => true) && its.toArray.size == jts.toArray.size)) = false := by simp [hl]
    rw [e]
    exact ⟨.bl false, H, I, rfl, q⟩
end
end L2

namespace Mw
open PySem L2
def top (i : Nat) : Stmt := PySem.Challenge.pw_mendweights_k19_whole_runs_end.main.body.getD i (.Pass ⟨0, 0, 0, 0⟩)
def mem (i j : Nat) : Stmt := match top i with
  | .ClassDef _ _ _ body _ _ _ _ _ _ _ => body.getD j (.Pass ⟨0, 0, 0, 0⟩)
  | _ => .Pass ⟨0, 0, 0, 0⟩
abbrev BN : List Str := ["len", "tuple", "list", "int", "range", "enumerate", "zip", "min", "max", "sum", "all", "ValueError"]
structure Prog (K : PySem.W.Frag) (mg : Str → Option Value) (C_Hand C_PlainHand C_MarginHand X_NoPoint X_NoSide X_NotParted X_TooMany : Addr) : Prop where
  c_Hand : ClsAt K mg "Hand" C_Hand
  c_PlainHand : ClsAt K mg "PlainHand" C_PlainHand
  c_MarginHand : ClsAt K mg "MarginHand" C_MarginHand
  x_NoPoint : ExR K mg "NoPoint" X_NoPoint
  x_NoSide : ExR K mg "NoSide" X_NoSide
  x_NotParted : ExR K mg "NotParted" X_NotParted
  x_TooMany : ExR K mg "TooMany" X_TooMany
  e_TooMany_TooMany : PySem.W.exmOne K (.ref X_TooMany) (.ref X_TooMany) = some true
  n_Hand_held : NoAttr K C_Hand "held"
  n_Hand_made : NoAttr K C_Hand "made"
  n_Hand_many : NoAttr K C_Hand "many"
  n_Hand_margin : NoAttr K C_Hand "margin"
  m_Hand___init__ : MethAt K C_Hand "__init__" "Hand.__init__" (mem 22 0)
  m_Hand_tells : MethAt K C_Hand "tells" "Hand.tells" (mem 22 1)
  m_Hand_put : MethAt K C_Hand "put" "Hand.put" (mem 22 2)
  m_Hand_weights : MethAt K C_Hand "weights" "Hand.weights" (mem 22 3)
  m_Hand_mistakes : MethAt K C_Hand "mistakes" "Hand.mistakes" (mem 22 4)
  m_Hand_would_err : MethAt K C_Hand "would_err" "Hand.would_err" (mem 22 5)
  m_Hand_look_at : MethAt K C_Hand "look_at" "Hand.look_at" (mem 22 6)
  m_Hand_has_side : MethAt K C_Hand "has_side" "Hand.has_side" (mem 22 7)
  m_Hand_side_of : MethAt K C_Hand "side_of" "Hand.side_of" (mem 22 8)
  m_Hand_is_mistake : MethAt K C_Hand "is_mistake" "Hand.is_mistake" (mem 22 9)
  m_Hand_mend : MethAt K C_Hand "mend" "Hand.mend" (mem 22 10)
  n_PlainHand_held : NoAttr K C_PlainHand "held"
  n_PlainHand_made : NoAttr K C_PlainHand "made"
  n_PlainHand_many : NoAttr K C_PlainHand "many"
  n_PlainHand_margin : NoAttr K C_PlainHand "margin"
  m_PlainHand_mend : MethAt K C_PlainHand "mend" "PlainHand.mend" (mem 23 0)
  m_PlainHand___init__ : MethAt K C_PlainHand "__init__" "Hand.__init__" (mem 22 0)
  m_PlainHand_tells : MethAt K C_PlainHand "tells" "Hand.tells" (mem 22 1)
  m_PlainHand_put : MethAt K C_PlainHand "put" "Hand.put" (mem 22 2)
  m_PlainHand_weights : MethAt K C_PlainHand "weights" "Hand.weights" (mem 22 3)
  m_PlainHand_mistakes : MethAt K C_PlainHand "mistakes" "Hand.mistakes" (mem 22 4)
  m_PlainHand_would_err : MethAt K C_PlainHand "would_err" "Hand.would_err" (mem 22 5)
  m_PlainHand_look_at : MethAt K C_PlainHand "look_at" "Hand.look_at" (mem 22 6)
  m_PlainHand_has_side : MethAt K C_PlainHand "has_side" "Hand.has_side" (mem 22 7)
  m_PlainHand_side_of : MethAt K C_PlainHand "side_of" "Hand.side_of" (mem 22 8)
  m_PlainHand_is_mistake : MethAt K C_PlainHand "is_mistake" "Hand.is_mistake" (mem 22 9)
  n_MarginHand_held : NoAttr K C_MarginHand "held"
  n_MarginHand_made : NoAttr K C_MarginHand "made"
  n_MarginHand_many : NoAttr K C_MarginHand "many"
  n_MarginHand_margin : NoAttr K C_MarginHand "margin"
  m_MarginHand___init__ : MethAt K C_MarginHand "__init__" "MarginHand.__init__" (mem 24 0)
  m_MarginHand_is_mistake : MethAt K C_MarginHand "is_mistake" "MarginHand.is_mistake" (mem 24 1)
  m_MarginHand_mend : MethAt K C_MarginHand "mend" "PlainHand.mend" (mem 23 0)
  m_MarginHand_tells : MethAt K C_MarginHand "tells" "Hand.tells" (mem 22 1)
  m_MarginHand_put : MethAt K C_MarginHand "put" "Hand.put" (mem 22 2)
  m_MarginHand_weights : MethAt K C_MarginHand "weights" "Hand.weights" (mem 22 3)
  m_MarginHand_mistakes : MethAt K C_MarginHand "mistakes" "Hand.mistakes" (mem 22 4)
  m_MarginHand_would_err : MethAt K C_MarginHand "would_err" "Hand.would_err" (mem 22 5)
  m_MarginHand_look_at : MethAt K C_MarginHand "look_at" "Hand.look_at" (mem 22 6)
  m_MarginHand_has_side : MethAt K C_MarginHand "has_side" "Hand.has_side" (mem 22 7)
  m_MarginHand_side_of : MethAt K C_MarginHand "side_of" "Hand.side_of" (mem 22 8)
  d_Hand_PlainHand : C_Hand ≠ C_PlainHand
  d_Hand_MarginHand : C_Hand ≠ C_MarginHand
  d_PlainHand_MarginHand : C_PlainHand ≠ C_MarginHand
  b_PlainHand___init__ : BaseAt K C_PlainHand "__init__" "Hand.__init__" (mem 22 0)
/-- the square of a lifted point -/
def sqP (r : List Int × Int) : Int := dot (r.1 ++ [1]) (r.1 ++ [1])
def spNumbers (K : PySem.W.Frag) : Sp := fun vs H Q _ => ∃ (a b : Addr) (as : List Addr) (m : Nat) (rs : List (List Int × Int)) (ws : List Int), vs = [.ref a, .ref b] ∧ SqL K H a (as.map V.ref) ∧ RowsAt K H as rs ∧ RowsOk m rs ∧ rs ≠ [] ∧ SqT K H b (ws.map V.int) ∧ ws.length ≤ 1000 ∧ (∀ x ∈ ws, Bits 900 x) ∧
  ∀ r H' (z f : Int), Same H H' → H r = none → H' r = some (.lst [.int z, .int f, .int (dot ws ws)]) → z ∈ gaps ws rs → (∀ b ∈ gaps ws rs, z ≤ b) → f ∈ rs.map sqP → (∀ b ∈ rs.map sqP, b ≤ f) → Q (.ref r) H'
theorem paired_cons2 {α β : Type} {R : α → β → Prop} {as : List α} {bs : List β} (h : Paired R as bs) {i : Nat} {a : α} (e : as[i]? = some a) : ∃ b, bs[i]? = some b ∧ R a b := paired_get h e
theorem turn_two {s n : Int} (h : s = 0 ∨ s = 1) : (2 * s - 1) * n = turnF n s := by
  unfold turnF
  rcases h with rfl | rfl
  · rw [if_neg (by decide)]; omega
  · rw [if_pos rfl]; omega
/-- a product of even weights and an odd constant is odd -/
theorem dot_even : ∀ {us xs : List Int}, (∀ u ∈ us, u % 2 = 0) → dot us xs % 2 = 0
  | [], _, _ => by simp [dot]
  | _ :: _, [], _ => by simp [dot]
  | u :: us, x :: xs, h => by
    have ih := dot_even (us := us) (xs := xs) fun w hw => h w (List.mem_cons_of_mem _ hw)
    have h1 := h u (List.mem_cons_self ..)
    rw [dot_cons]
    have h2 : u * x % 2 = 0 := by rw [Int.mul_emod, h1]; simp
    omega
theorem dot_odd {us xs : List Int} {c : Int} (hl : us.length = xs.length) (h : ∀ u ∈ us, u % 2 = 0) (hc : c % 2 = 1) : dot (us ++ [c]) (xs ++ [1]) ≠ 0 := by
  rw [dot_snoc _ _ _ _ hl]
  have := dot_even (xs := xs) h
  omega
def spParted18 (K : PySem.W.Frag) : Sp := fun vs H Q _ => ∃ (a : Addr) (ns : List Int) (n m od : Nat) (g : Int), vs = [.ref a, .int n, .int g, .int m, .int od] ∧ SqL K H a (ns.map V.int) ∧ 0 < n ∧ n ≤ 10 ∧ 0 < m ∧ m ≤ 4 ∧ 1 ≤ g ∧ g ≤ 1000 ∧ od ≤ 100 ∧
  ∀ r t rr ro H' (ws : List Int) (as : List Addr) (rs : List (List Int × Int)) (os : List Int), Same H H' → H r = none → H' r = some (.lst [.ref t, .ref rr, .ref ro]) → H' t = some (.tup (ws.map V.int)) → H' rr = some (.lst (as.map V.ref)) → RowsAt K H' as rs → RowsOk m rs → rs.length = n → ws.length = m + 1 →
    (∀ w ∈ ws, -10 ≤ w ∧ w ≤ 10) → (∀ r ∈ rs, 0 < turnF (dot ws (r.1 ++ [1])) r.2) → H' ro = some (.lst (os.map V.int)) → (∀ o ∈ os, 0 ≤ o ∧ o < n) → os.length = od → Q (.ref r) H'
theorem Hnd.bits9 {h : Hnd} (o : h.Ok) (e : h.err ≤ errTop) : ∀ w ∈ h.ws, Bits 900 w := fun w hw => by
  have := o.low w hw
  refine Bits.mono (n := 40) ?_ (by decide)
  show w.natAbs < 2 ^ 40
  have e2 : (2 : Nat) ^ 40 = 1099511627776 := by decide
  have e3 : errTop = 1000000 := rfl
  omega
theorem mend_mv (ws p : List Int) (s : Int) : Hnd.mend ws p s = mv (2 * s - 1) ws (p ++ [1]) := rfl
/-- a mistake: the product, turned by the side, isn't above the margin -/
theorem Hnd.wrong_low {h : Hnd} {xs : List Int} {s : Int} (hk : h.kd = 2 ∨ h.mg = 0) (hs : s = 0 ∨ s = 1) (hw : h.wrong xs s = true) : (2 * s - 1) * h.prod xs ≤ h.mg := by
  unfold Hnd.wrong at hw
  by_cases h2 : h.kd = 2
  · rw [if_pos h2] at hw
    exact of_decide_eq_true hw
  · rw [if_neg h2] at hw
    have hg : h.mg = 0 := by rcases hk with z | z; exact absurd z h2; exact z
    have hn : guessV (h.prod xs) ≠ V.int s := of_decide_eq_true hw
    rw [hg]
    generalize h.prod xs = z at *
    unfold guessV at hn
    by_cases z0 : z = 0
    · rw [z0]; omega
    · rw [if_neg z0] at hn
      by_cases zp : 0 < z
      · rw [if_pos zp] at hn
        rcases hs with rfl | rfl
        · omega
        · exact absurd rfl hn
      · rw [if_neg zp] at hn
        rcases hs with rfl | rfl
        · exact absurd rfl hn
        · omega
theorem Hnd.step_up {h : Hnd} {us xs : List Int} {s z : Int} (ho : h.Ok) (hx : h.PtOk xs) (hul : us.length = h.many + 1) (hs : s = 0 ∨ s = 1) (hz : z ≤ turnF (dot us (xs ++ [1])) s) : dot h.ws us + z ≤ dot (Hnd.mend h.ws xs s) us := by
  have hl := ho.len
  have hxl := hx.len
  rw [mend_mv, dot_mv _ (by rw [List.length_append, hl, hxl]; rfl) (by rw [hl, hul]), dot_comm (xs ++ [1]) us, turn_two hs]
  omega
theorem Hnd.step_sq {h : Hnd} {xs : List Int} {s f : Int} (ho : h.Ok) (hx : h.PtOk xs) (hk : h.kd = 2 ∨ h.mg = 0) (hs : s = 0 ∨ s = 1) (hw : h.wrong xs s = true) (hf : dot (xs ++ [1]) (xs ++ [1]) ≤ f) :
    dot (Hnd.mend h.ws xs s) (Hnd.mend h.ws xs s) ≤ dot h.ws h.ws + f + 2 * h.mg := by
  have hl := ho.len
  have hxl := hx.len
  have hlow := Hnd.wrong_low hk hs hw
  rw [mend_mv, dot_mv2 _ (by rw [List.length_append, hl, hxl]; rfl)]
  have e1 : (2 * s - 1) * (2 * s - 1) = 1 := by rcases hs with rfl | rfl <;> rfl
  have e2 : 2 * (2 * s - 1) * dot h.ws (xs ++ [1]) = 2 * ((2 * s - 1) * h.prod xs) := by unfold Hnd.prod; rw [Int.mul_assoc]
  rw [e1, e2, Int.one_mul]
  omega
theorem bits_of_abs {x : Int} {n : Nat} (h : x.natAbs ≤ 100000000000000000000000000000000000000000000) (hn : 200 ≤ n) : Bits n x := by
  refine Bits.mono (n := 200) ?_ hn
  show x.natAbs < 2 ^ 200
  have e : (2 : Nat) ^ 200 = 1606938044258990275541962092341162602522202993782792835301376 := by decide
  omega
/-- bound_of -/
def bndF (rs : List (List Int × Int)) (ws : List Int) (mg z : Int) : Int := (farF rs + 2 * mg) * dot ws ws / (z * z)
def spBnd (K : PySem.W.Frag) (xp : Addr) : Sp := fun vs H Q E => ∃ (a b : Addr) (as : List Addr) (m : Nat) (rs : List (List Int × Int)) (ws : List Int) (mg : Int), vs = [.ref a, .ref b, .int mg] ∧ SqL K H a (as.map V.ref) ∧ RowsAt K H as rs ∧ RowsOk m rs ∧ SqT K H b (ws.map V.int) ∧ ws.length ≤ 10 ∧ (∀ w ∈ ws, w.natAbs ≤ 1000000000) ∧ 0 ≤ mg ∧ mg ≤ 1000 ∧
  (((gaps ws rs).all fun n => decide (0 < n)) = false → ∀ H', Same H H' → E (.ref xp) none H') ∧ (rs = [] → ∀ H', Same H H' → Q (.int 0) H') ∧
  (((gaps ws rs).all fun n => decide (0 < n)) = true → rs ≠ [] → ∀ z H', Same H H' → z ∈ gaps ws rs → (∀ b ∈ gaps ws rs, z ≤ b) → Q (.int (bndF rs ws mg z)) H')
theorem dot_nat {A B : Nat} : ∀ {ws xs : List Int}, (∀ w ∈ ws, w.natAbs ≤ A) → (∀ x ∈ xs, x.natAbs ≤ B) → (dot ws xs).natAbs ≤ ws.length * (A * B) := dot_abs
theorem far_abs {m : Nat} {rs : List (List Int × Int)} (h : RowsOk m rs) : 0 ≤ farF rs ∧ farF rs ≤ 5000000 := by
  obtain ⟨h1, _, h3⟩ := maxG (rs.map fun r => dot (r.1 ++ [1]) (r.1 ++ [1])) 0
  have e : farF rs = (rs.map fun r => dot (r.1 ++ [1]) (r.1 ++ [1])).foldl (fun m n => if n > m then n else m) 0 := rfl
  rw [e]
  refine ⟨h1, ?_⟩
  rcases h3 with z | z
  · rw [z]; decide
  · obtain ⟨r, hr, hz⟩ := List.mem_map.mp z
    rw [← hz]
    have hl := h.cnt r hr
    have hf := h.few
    have b := dot_abs (A := 1000) (B := 1000) (ws := r.1 ++ [1]) (xs := r.1 ++ [1]) (fun x hx => by have := Hnd.low_snoc (h.low r hr) x hx; omega) (fun x hx => by have := Hnd.low_snoc (h.low r hr) x hx; omega)
    rw [List.length_append, hl] at b
    have b2 : (m + [(1 : Int)].length) * (1000 * 1000) ≤ 5 * (1000 * 1000) := Nat.mul_le_mul_right _ (by show m + 1 ≤ 5; omega)
    omega
theorem far_le {rs : List (List Int × Int)} {r : List Int × Int} (h : r ∈ rs) : dot (r.1 ++ [1]) (r.1 ++ [1]) ≤ farF rs :=
  (maxG (rs.map fun r => dot (r.1 ++ [1]) (r.1 ++ [1])) 0).2.1 _ (List.mem_map.mpr ⟨r, h, rfl⟩)
theorem far_is {m : Nat} {rs : List (List Int × Int)} {f : Int} (h : f ∈ rs.map sqP) (h2 : ∀ b ∈ rs.map sqP, b ≤ f) : f = farF rs := by
  obtain ⟨r, hr, rfl⟩ := List.mem_map.mp h
  have h1 : sqP r ≤ farF rs := far_le hr
  obtain ⟨a1, _, a3⟩ := maxG (rs.map fun r => dot (r.1 ++ [1]) (r.1 ++ [1])) 0
  have e : farF rs = (rs.map fun r => dot (r.1 ++ [1]) (r.1 ++ [1])).foldl (fun m n => if n > m then n else m) 0 := rfl
  have h3 : farF rs ≤ sqP r := by
    rw [e]
    rcases a3 with z | z
    · rw [z]; exact dot_self_nonneg _
    · exact h2 _ z
  omega
theorem gap_abs {m : Nat} {rs : List (List Int × Int)} {ws : List Int} {z : Int} (h : RowsOk m rs) (hl : ws.length ≤ 10) (hw : ∀ w ∈ ws, w.natAbs ≤ 1000000000) (hz : z ∈ gaps ws rs) : z.natAbs ≤ 10000000000000 := by
  unfold gaps at hz
  obtain ⟨r, hr, rfl⟩ := List.mem_map.mp hz
  have b := dot_abs (A := 1000000000) (B := 1000) (ws := ws) (xs := r.1 ++ [1]) hw (fun x hx => by have := Hnd.low_snoc (h.low r hr) x hx; omega)
  have b2 : ws.length * (1000000000 * 1000) ≤ 10 * (1000000000 * 1000) := Nat.mul_le_mul_right _ hl
  unfold turnF
  split <;> omega
theorem sq_abs {ws : List Int} (hl : ws.length ≤ 10) (hw : ∀ w ∈ ws, w.natAbs ≤ 1000000000) : 0 ≤ dot ws ws ∧ dot ws ws ≤ 10000000000000000000 := by
  have b := dot_abs (A := 1000000000) (B := 1000000000) (ws := ws) (xs := ws) hw hw
  have b2 : ws.length * (1000000000 * 1000000000) ≤ 10 * (1000000000 * 1000000000) := Nat.mul_le_mul_right _ hl
  have := dot_self_nonneg ws
  omega
theorem small_bits9 {w : Int} (h : w.natAbs ≤ 1000000000) : Bits 900 w := Bits.mono (n := 40) (by
  show w.natAbs < 2 ^ 40
  have e : (2 : Nat) ^ 40 = 1099511627776 := by decide
  omega) (by decide)
theorem dot_rep0 : ∀ (n : Nat) (ts : List Int), dot (List.replicate n 0) ts = 0 := by
  intro n
  induction n with
  | zero => intro ts; unfold dot; simp
  | succ n ih =>
    intro ts
    cases ts with
    | nil => unfold dot; simp
    | cons t ts => rw [List.replicate_succ, dot_cons, ih]; omega
structure PJ (m kd : Nat) (mg : Int) (rs : List (List Int × Int)) (h : Hnd) : Prop where
  ok : h.Ok
  ekd : h.kd = kd
  emg : h.mg = mg
  ema : h.many = m
  up : ∀ (us : List Int) (zz : Int), us.length = m + 1 → (∀ r ∈ rs, zz ≤ turnF (dot us (r.1 ++ [1])) r.2) → (h.err : Int) * zz ≤ dot h.ws us
  sq : dot h.ws h.ws ≤ (h.err : Int) * (farF rs + 2 * mg)
theorem PJ.pt {m kd : Nat} {mg : Int} {rs : List (List Int × Int)} {h : Hnd} (P : PJ m kd mg rs h) (hO : RowsOk m rs) {r : List Int × Int} (hr : r ∈ rs) : h.PtOk r.1 := ⟨by rw [P.ema]; exact hO.cnt r hr, hO.low r hr⟩
theorem PJ.step {m kd : Nat} {mg : Int} {rs : List (List Int × Int)} {h : Hnd} (P : PJ m kd mg rs h) (hO : RowsOk m rs) {r : List Int × Int} (hr : r ∈ rs) (hw : h.wrong r.1 r.2 = true) (hk : kd = 1 ∧ mg = 0 ∨ kd = 2) : PJ m kd mg rs (h.step r.1 r.2) := by
  have hpt := P.pt hO hr
  have hs := hO.sid r hr
  have hws : (h.step r.1 r.2).ws = Hnd.mend h.ws r.1 r.2 := by
    unfold Hnd.step
    rw [if_pos hw]
    show (if h.kd = 0 then h.ws else Hnd.mend h.ws r.1 r.2) = _
    rw [if_neg (by rw [P.ekd]; omega)]
  have he : (h.step r.1 r.2).err = h.err + 1 := by rw [Hnd.step_err, if_pos hw]
  refine ⟨P.ok.step hpt hs, by rw [Hnd.step_kd, P.ekd], by rw [Hnd.step_mg, P.emg], by rw [Hnd.step_many, P.ema], fun us zz hl hz => ?_, ?_⟩
  · rw [hws, he]
    have a := Hnd.step_up P.ok hpt (by rw [P.ema]; exact hl) hs (hz r hr)
    have b := P.up us zz hl hz
    have c : ((h.err + 1 : Nat) : Int) * zz = (h.err : Int) * zz + zz := by rw [Int.natCast_add, Int.add_mul]; simp
    rw [c]; omega
  · rw [hws, he]
    have a := Hnd.step_sq P.ok hpt (by rw [P.ekd, P.emg]; rcases hk with z | z; exact .inr z.2; exact .inl z) hs hw (far_le hr)
    rw [P.emg] at a
    have b := P.sq
    have c : ((h.err + 1 : Nat) : Int) * (farF rs + 2 * mg) = (h.err : Int) * (farF rs + 2 * mg) + (farF rs + 2 * mg) := by rw [Int.natCast_add, Int.add_mul]; simp
    rw [c]; omega
theorem PJ.bound {m kd : Nat} {mg : Int} {rs : List (List Int × Int)} {h : Hnd} (P : PJ m kd mg rs h) (hO : RowsOk m rs) (hm : 0 ≤ mg) {us : List Int} {z : Int} (hl : us.length = m + 1) (hz0 : 0 < z) (hz : ∀ b ∈ gaps us rs, z ≤ b) : (h.err : Int) ≤ bndF rs us mg z := by
  have hup := P.up us z hl fun r hr => hz _ (List.mem_map.mpr ⟨r, hr, rfl⟩)
  obtain ⟨f0, _⟩ := far_abs hO
  have hc := few_mistakes (e := (h.err : Int)) (z := z) (k := farF rs + 2 * mg) (u := dot us us) (by omega) (by omega) (dot_self_nonneg us) (by omega) hup P.sq (cauchy (by rw [P.ok.len, P.ema, hl]))
  unfold bndF
  refine Int.le_ediv_of_mul_le (Int.mul_pos hz0 hz0) ?_
  rw [← Int.mul_assoc]; exact hc
theorem PJ.new {m kd : Nat} {mg : Int} {rs : List (List Int × Int)} (h0 : 0 < m) (h4 : m ≤ 4) (hk : kd < 3) : PJ m kd mg rs (Hnd.new kd mg m) := by
  refine ⟨Hnd.new_ok hk h0 h4, rfl, rfl, rfl, fun us zz _ _ => ?_, ?_⟩
  · show ((0 : Nat) : Int) * zz ≤ dot (List.replicate (m + 1) 0) us
    rw [dot_rep0]; simp
  · show dot (List.replicate (m + 1) 0) (List.replicate (m + 1) 0) ≤ ((0 : Nat) : Int) * _
    rw [dot_rep0]; simp
def spBook (K : PySem.W.Frag) (cls : Nat → Addr) (ks : List Nat) : Sp := fun vs H Q _ => ∃ (a b : Addr) (as : List Addr) (rs : List (List Int × Int)) (most : Int) (g : Gnd) (J : Nat → Gnd → List Nat → Prop), vs = [.ref a, .ref b, .int most] ∧ GAt cls ks H a g ∧ H b = some (.lst (as.map V.ref)) ∧ RowsAt K H as rs ∧ rs.length ≤ 200 ∧ 0 ≤ most ∧ most ≤ 9000 ∧ RunJ rs most J ∧ J 0 g [] ∧
  (∀ g' bk r H', Kp [a] H H' → GAt cls ks H' a g' → H r = none → H' r = some (.lst (numsV bk)) → J 0 g' bk → (bk.length : Int) ≤ most → (∀ r ∈ rs, g'.wrong r.1 r.2 = false) → Q (.ref r) H') ∧
  (∀ i g' bk r H', Kp [a] H H' → GAt cls ks H' a g' → J i g' bk → rs[i]? = some r → g'.wrong r.1 r.2 = true → (bk.length : Int) = most → Q .non H')
def spAllR (K : PySem.W.Frag) (cls : Nat → Addr) (ks : List Nat) : Sp := fun vs H Q _ => ∃ (a b : Addr) (as : List Addr) (m : Nat) (rs : List (List Int × Int)) (mg : Int) (h : Hnd), vs = [.ref a, .ref b, .int mg] ∧ GAt cls ks H a (.p h) ∧ h.Ok ∧ h.err ≤ errTop ∧ H b = some (.lst (as.map V.ref)) ∧ RowsAt K H as rs ∧ RowsOk m rs ∧ h.many = m ∧
  (∀ r ∈ rs, guessV (h.prod r.1) = .int r.2 ∧ mg < (2 * r.2 - 1) * h.prod r.1 ∧ h.wrong r.1 r.2 = false) ∧ ∀ H', Kp [a] H H' → GAt cls ks H' a (.p h) → Q (.bl true) H'
end Mw
namespace Mw
open PySem L2
section
variable {P : Program} {w : World} {K : PySem.W.Frag} {mg : Str → Option Value} {base : Heap} {f : Addr} {fd : FuncData} {I : HandI} {cls : Nat → Addr} {ks : List Nat} {np ns tm xp : Addr}
theorem sc_product : FnScope ["one", "other"] ["one", "other"] (defScope (top 7)) := ⟨rfl, rfl, rfl, by decide +kernel, rfl, by decide +kernel, by decide +kernel⟩
theorem ok_product (F : Fun K "product" "product" (top 7) f fd) (T : Txt BN mg) : FnOk P w K mg base CX0 1 f fd ["one", "other"] (spProd K) := by
  refine F.ok sc_product (fun vs H Q E h => ?_) (fun cdv A outer s H vs Q E hr h => ?_)
  · obtain ⟨a, b, b1, b2, xs, ys, rfl, _⟩ := h
    rfl
  obtain ⟨a, b, b1, b2, xs, ys, rfl, hA, hB, hl, hx, hy, q⟩ := h
  refine ⟨_, (pss_one (ps_ret (pe_callB (call_sumI rfl) rfl (T.nb "sum" (by decide)) (by decide +kernel) (pa_cons (pe_comp (sc := defScope (top 7)) (N := ["one", "other"]) (NB := ["first", "second"]) (fr := [none, none]) rfl (by decide +kernel) (pi_zip rfl (T.nb "zip" (by decide)) (pa_cons (pv 0) (pa_cons (pv 1) pa_nil))) (fun _ _ _ _ => (pg_tupK (K := K) (n := 2) rfl rfl (pgs_cons (pg_name (i := 0) (show (["first", "second"] : List Str).Nodup by decide +kernel) rfl (Or.inl rfl)) (pgs_cons (pg_name (i := 1) (show (["first", "second"] : List Str).Nodup by decide +kernel) rfl (Or.inl rfl)) pgs_nil)))) (fun _ _ _ _ => .nil) (fun _ _ _ _ => (pe_op op_mulB (pv 0) (pv 1)))) pa_nil)))), ?_⟩
  refine ⟨_, rfl, _, rfl, b1, b2, a, b, rfl, ⟨_, hA⟩, ⟨_, hB⟩, fun D hD => ?_⟩
  refine comp_zip (us := xs.map V.int) (vs := ys.map V.int) (fun i zs H' => zs = (((List.zipWith (· * ·) xs ys).take i).map V.int) ∧ Same H H' ∧ H' D = some (.lst zs)) ⟨by simp, Same.new hD _, upd_same⟩
    (fun i zs H' hi ⟨e1, _, e3⟩ => ⟨e3, by rw [e1, List.length_map, List.length_take]; omega⟩) (fun i zs H' _ ⟨_, e2, _⟩ => ⟨e2.seqB hA, e2.seqB hB⟩) (by rw [List.length_map]; exact Nat.le_of_lt (small1000 hl)) ?_ ?_
  · rintro i x y T0 zs H' hx0 hy0 hT0 ⟨e1, e2, e3⟩
    obtain ⟨x1, hx1, rfl⟩ := of_map hx0
    obtain ⟨y1, hy1, rfl⟩ := of_map hy0
    have hTD : D ≠ T0 := ne_of_none e3 hT0
    refine ⟨T0, _, rfl, SqT.of upd_same, rfl, _, _, rfl, _, _, rfl, rfl, wk_none (n := 2) rfl, ?_⟩
    refine tYes_then ?_
    refine ⟨_, rfl, _, rfl, _, _, rfl, rfl, ⟨1000, by decide, hx x1 (List.mem_of_getElem? hx1), hy y1 (List.mem_of_getElem? hy1)⟩, by rw [upd_ne hTD]; exact e3, ?_, (e2.trans (Same.new hT0 _)).upd_old hD, upd_same⟩
    rw [take_snoc (zip_get hx1 hy1), List.map_append, e1]; rfl
  · rintro zs H' ⟨e1, e2, e3⟩
    refine ⟨D, List.zipWith (· * ·) xs ys, rfl, .inl (.inl ?_), q H' e2⟩
    rw [e3, e1, List.take_of_length_le (by rw [List.length_zipWith, List.length_map, List.length_map]; exact Nat.le_refl _)]
end
end Mw

namespace Mw
open PySem L2
section
variable {P : Program} {w : World} {K : PySem.W.Frag} {mg : Str → Option Value} {base : Heap} {f : Addr} {fd : FuncData} {I : HandI} {cls : Nat → Addr} {ks : List Nat} {np ns tm xp : Addr}
theorem sc_square : FnScope ["one"] ["one"] (defScope (top 8)) := ⟨rfl, rfl, rfl, by decide +kernel, rfl, by decide +kernel, by decide +kernel⟩
theorem ok_square (F : Fun K "square" "square" (top 8) f fd) (T : Txt BN mg) (c_product : Cal P w K mg base 1 "product" ["one", "other"] (spProd K)) : FnOk P w K mg base CX0 2 f fd ["one"] (spSquare K) := by
  refine F.ok sc_square (fun vs H Q E h => ?_) (fun cdv A outer s H vs Q E hr h => ?_)
  · obtain ⟨a, b1, xs, rfl, _⟩ := h
    rfl
  obtain ⟨a, b1, xs, rfl, hA, hl, hx, q⟩ := h
  refine ⟨_, (pss_one (ps_ret (pe_cal c_product (hr.mono (by decide)) rfl (pa_cons (pv 0) (pa_cons (pv 0) pa_nil))))), ?_⟩
  exact ⟨_, rfl, _, rfl, a, a, b1, b1, xs, xs, rfl, hA, hA, hl, hx, hx, q⟩
end
end Mw

namespace Mw
open PySem L2
section
variable {P : Program} {w : World} {K : PySem.W.Frag} {mg : Str → Option Value} {base : Heap} {f : Addr} {fd : FuncData} {I : HandI} {cls : Nat → Addr} {ks : List Nat} {np ns tm xp : Addr}
theorem sc_lifted : FnScope ["point"] ["point"] (defScope (top 9)) := ⟨rfl, rfl, rfl, by decide +kernel, rfl, by decide +kernel, by decide +kernel⟩
theorem ok_lifted (F : Fun K "lifted" "lifted" (top 9) f fd) (T : Txt BN mg) : FnOk P w K mg base CX0 1 f fd ["point"] (spLift K) := by
  refine F.ok sc_lifted (fun vs H Q E h => ?_) (fun cdv A outer s H vs Q E hr h => ?_)
  · obtain ⟨a, xs, rfl, _⟩ := h
    rfl
  obtain ⟨a, xs, rfl, hA, hne, hl, q⟩ := h
  refine ⟨_, (pss_one (ps_ret (pe_op (op_catTK (K := K) rfl) (pv 0) (pe_tup (pa_cons pe_int pa_nil))))), ?_⟩
  refine ⟨_, rfl, (by show 1 ≤ sizeLine; decide), fun p hp => ?_⟩
  have s1 := Same.new hp (.tup [.int 1])
  refine ⟨a, p, _, _, rfl, rfl, s1.seqT hA, SqT.of upd_same, ?_, ?_, fun z => (nomatch z), fun _ r hr0 => ?_⟩
  · intro z; exact hne (List.map_eq_nil_iff.mp z)
  · rw [List.length_map]; exact Nat.le_of_lt (small1000 (by show xs.length + 1 ≤ 1000; omega))
  · refine q r _ (s1.trans (Same.new hr0 _)) (s1.free hr0) ?_
    rw [upd_same, List.map_append]; rfl
end
end Mw

namespace Mw
open PySem L2
section
variable {P : Program} {w : World} {K : PySem.W.Frag} {mg : Str → Option Value} {base : Heap} {f : Addr} {fd : FuncData} {I : HandI} {cls : Nat → Addr} {ks : List Nat} {np ns tm xp : Addr}
theorem sc_told_by : FnScope ["weights", "point"] ["weights", "point"] (defScope (top 10)) := ⟨rfl, rfl, rfl, by decide +kernel, rfl, by decide +kernel, by decide +kernel⟩
theorem ok_told_by (F : Fun K "told_by" "told_by" (top 10) f fd) (T : Txt BN mg) (c_product : Cal P w K mg base 1 "product" ["one", "other"] (spProd K)) (c_lifted : Cal P w K mg base 1 "lifted" ["point"] (spLift K)) : FnOk P w K mg base CX0 2 f fd ["weights", "point"] (spTold K) := by
  refine F.ok sc_told_by (fun vs H Q E h => ?_) (fun cdv A outer s H vs Q E hr h => ?_)
  · obtain ⟨a, b, b1, ws, xs, rfl, _⟩ := h
    rfl
  obtain ⟨a, b, b1, ws, xs, rfl, hA, hB, hne, hl, hl2, hw, hx, q⟩ := h
  refine ⟨_, (pss_one (ps_ret (pe_cal c_product (hr.mono (by decide)) rfl (pa_cons (pv 0) (pa_cons (pe_cal c_lifted (hr.mono (by decide)) rfl (pa_cons (pv 1) pa_nil)) pa_nil))))), ?_⟩
  refine ⟨_, rfl, _, rfl, b, xs, rfl, hB, hne, hl, fun r H1 s1 hr0 hR => ?_⟩
  exact ⟨a, r, b1, true, ws, xs ++ [1], rfl, s1.seqB hA, SqT.of hR, hl2, hw, bits_snoc (by decide) hx, fun H2 s2 => q H2 (s1.trans s2)⟩
end
end Mw

namespace Mw
open PySem L2
section
variable {P : Program} {w : World} {K : PySem.W.Frag} {mg : Str → Option Value} {base : Heap} {f : Addr} {fd : FuncData} {I : HandI} {cls : Nat → Addr} {ks : List Nat} {np ns tm xp : Addr}
theorem sc_turned : FnScope ["number", "side"] ["number", "side"] (defScope (top 11)) := ⟨rfl, rfl, rfl, by decide +kernel, rfl, by decide +kernel, by decide +kernel⟩
theorem ok_turned (F : Fun K "turned" "turned" (top 11) f fd) (T : Txt BN mg) : FnOk P w K mg base CX0 1 f fd ["number", "side"] spTurned := by
  refine F.ok sc_turned (fun vs H Q E h => ?_) (fun cdv A outer s H vs Q E hr h => ?_)
  · obtain ⟨n, s, rfl, _⟩ := h
    rfl
  obtain ⟨n, sd, rfl, q⟩ := h
  refine ⟨_, (pss_one (ps_ret (pe_ifExp (pt_cmpR op_eq (pv 1) pe_int (nomark _)) (pv 0) (pe_un un_neg (pv 0))))), ?_⟩
  refine ⟨_, rfl, rfl, _, rfl, ?_⟩
  refine iteD (fun z => ?_) (fun z => ?_)
  · have e : sd = 1 := by injection z
    unfold turnF at q
    rw [if_pos e] at q
    exact ⟨_, rfl, q⟩
  · have e : ¬ sd = 1 := fun y => z (by rw [y])
    unfold turnF at q
    rw [if_neg e] at q
    exact ⟨_, rfl, _, rfl, q⟩
end
end Mw

namespace Mw
open PySem L2
section
variable {P : Program} {w : World} {K : PySem.W.Frag} {mg : Str → Option Value} {base : Heap} {f : Addr} {fd : FuncData} {I : HandI} {cls : Nat → Addr} {ks : List Nat} {np ns tm xp : Addr}
theorem sc_turned_products : FnScope ["rows", "weights"] ["rows", "weights"] (defScope (top 12)) := ⟨rfl, rfl, rfl, by decide +kernel, rfl, by decide +kernel, by decide +kernel⟩
theorem ok_turned_products (F : Fun K "turned_products" "turned_products" (top 12) f fd) (T : Txt BN mg) (c_turned : Cal P w K mg base 1 "turned" ["number", "side"] spTurned) (c_told_by : Cal P w K mg base 2 "told_by" ["weights", "point"] (spTold K)) : FnOk P w K mg base CX0 3 f fd ["rows", "weights"] (spTurnedAll K) := by
  refine F.ok sc_turned_products (fun vs H Q E h => ?_) (fun cdv A outer s H vs Q E hr h => ?_)
  · obtain ⟨m, rs, ws, ⟨a, b, as, rfl, _⟩, _⟩ := h
    rfl
  obtain ⟨m, rs, ws, ⟨a, b, as, rfl, hA, hR, hO, hW, hw⟩, q⟩ := h
  refine ⟨_, (pss_one (ps_ret (pe_comp (sc := defScope (top 12)) (N := ["rows", "weights"]) (NB := ["point", "side", "weights"]) (fr := [none, none, some 1]) rfl (by decide +kernel) (pi_list (pv 0)) (fun _ _ _ _ => (pg_tupK (K := K) (n := 2) rfl rfl (pgs_cons (pg_name (i := 0) (show (["point", "side", "weights"] : List Str).Nodup by decide +kernel) rfl (Or.inl rfl)) (pgs_cons (pg_name (i := 1) (show (["point", "side", "weights"] : List Str).Nodup by decide +kernel) rfl (Or.inl rfl)) pgs_nil)))) (fun _ _ _ _ => .nil) (fun _ _ _ _ => (pe_cal c_turned (hr.mono (by decide)) rfl (pa_cons (pe_cal c_told_by (hr.mono (by decide)) rfl (pa_cons (pv 2) (pa_cons (pv 0) pa_nil))) (pa_cons (pv 1) pa_nil))))))), ?_⟩
  have hlen : as.length = rs.length := Paired.length hR
  refine ⟨_, rfl, a, rfl, ⟨_, hA⟩, fun D hD => ?_⟩
  refine comp_list (xs := as.map V.ref) (fun i zs H' => zs = ((gaps ws (rs.take i)).map V.int) ∧ Same H H' ∧ H' D = some (.lst zs)) ⟨by simp [gaps], Same.new hD _, upd_same⟩
    (fun i zs H' hi ⟨e1, _, e3⟩ => ⟨e3, by rw [e1, List.length_map, gaps_length, List.length_take]; omega⟩) (fun i zs H' _ ⟨_, e2, _⟩ => e2.seq hA) (by rw [List.length_map, hlen]; exact Nat.le_of_lt (small1000 (by have := hO.len; omega))) ?_ ?_
  · rintro i x zs H' hi ⟨e1, e2, e3⟩
    obtain ⟨y, hy, rfl⟩ := of_map hi
    obtain ⟨r, hr1, p, hq1, hq2⟩ := paired_get hR hy
    have hm := List.mem_of_getElem? hr1
    refine ⟨y, _, rfl, e2.seqT hq1, rfl, _, _, rfl, _, _, rfl, rfl, ⟨rfl, ?_⟩, ?_⟩
    · intro j v ej
      match j, ej with
      | 2, ej => exact ej
      | 0, ej => simp [carry] at ej
      | 1, ej => simp [carry] at ej
      | j + 3, ej => simp [carry] at ej
    refine tYes_then ?_
    refine ⟨_, rfl, _, rfl, b, p, true, ws, r.1, rfl, e2.seqT hW, e2.seqT hq2, hO.ne hm, by rw [hO.cnt r hm]; have := hO.few; omega, hw.len, hw.bits, hO.bits hm (by decide), fun H1 s1 => ?_⟩
    refine ⟨_, rfl, _, _, rfl, s1 _ _ e3, ?_, (e2.trans s1).upd_old hD, upd_same⟩
    rw [take_snoc hr1, e1]
    unfold gaps
    rw [List.map_append, List.map_append]; rfl
  · rintro zs H' ⟨e1, e2, e3⟩
    rw [List.length_map, hlen, List.take_length] at e1
    subst e1
    exact q D H' e2 hD e3
end
end Mw

namespace Mw
open PySem L2
section
variable {P : Program} {w : World} {K : PySem.W.Frag} {mg : Str → Option Value} {base : Heap} {f : Addr} {fd : FuncData} {I : HandI} {cls : Nat → Addr} {ks : List Nat} {np ns tm xp : Addr}
theorem sc_are_parted : FnScope ["rows", "weights"] ["rows", "weights"] (defScope (top 13)) := ⟨rfl, rfl, rfl, by decide +kernel, rfl, by decide +kernel, by decide +kernel⟩
theorem ok_are_parted (F : Fun K "are_parted" "are_parted" (top 13) f fd) (T : Txt BN mg) (c_turned_products : Cal P w K mg base 3 "turned_products" ["rows", "weights"] (spTurnedAll K)) : FnOk P w K mg base CX0 4 f fd ["rows", "weights"] (spParted K) := by
  refine F.ok sc_are_parted (fun vs H Q E h => ?_) (fun cdv A outer s H vs Q E hr h => ?_)
  · obtain ⟨m, rs, ws, ⟨a, b, as, rfl, _⟩, _⟩ := h
    rfl
  obtain ⟨m, rs, ws, ⟨a, b, as, rfl, hA, hR, hO, hW, hw⟩, q⟩ := h
  refine ⟨_, (pss_one (ps_ret (pe_callB (call_allB rfl) rfl (T.nb "all" (by decide)) (by decide +kernel) (pa_cons (pe_comp (sc := defScope (top 13)) (N := ["rows", "weights"]) (NB := ["number"]) (fr := [none]) rfl (by decide +kernel) (pi_list (pe_cal c_turned_products (hr.mono (by decide)) rfl (pa_cons (pv 0) (pa_cons (pv 1) pa_nil)))) (fun _ _ _ _ => (pg_name (i := 0) (show (["number"] : List Str).Nodup by decide +kernel) rfl (Or.inl rfl))) (fun _ _ _ _ => .nil) (fun _ _ _ _ => (pe_cmpR op_gt (pv 0) pe_int (nomark _)))) pa_nil)))), ?_⟩
  refine ⟨_, rfl, _, rfl, m, rs, ws, ⟨a, b, as, rfl, hA, hR, hO, hW, hw⟩, fun r H1 s1 hr0 hG => ?_⟩
  refine ⟨r, rfl, ⟨_, SqL.of hG⟩, fun D hD => ?_⟩
  refine comp_list (xs := (gaps ws rs).map V.int) (fun i zs H' => zs = (((gaps ws rs).take i).map fun n => V.bl (decide (0 < n))) ∧ Same H1 H' ∧ H' D = some (.lst zs)) ⟨by simp, Same.new hD _, upd_same⟩
    (fun i zs H' hi ⟨e1, _, e3⟩ => ⟨e3, by rw [e1, List.length_map, List.length_take]; omega⟩) (fun i zs H' _ ⟨_, e2, _⟩ => e2.seq (SqL.of hG)) (by rw [List.length_map, gaps_length]; exact Nat.le_of_lt (small1000 (by have := hO.len; omega))) ?_ ?_
  · rintro i x zs H' hi ⟨e1, e2, e3⟩
    obtain ⟨n, hn, rfl⟩ := of_map hi
    refine ⟨wk_none (n := 1) rfl, ?_⟩
    refine tYes_then ?_
    refine ⟨_, rfl, _, _, rfl, rfl, e3, ?_, e2.upd_old hD, upd_same⟩
    rw [take_snoc hn, List.map_append, e1]; rfl
  · rintro zs H' ⟨e1, e2, e3⟩
    rw [List.length_map, List.take_length] at e1
    subst e1
    refine ⟨D, (gaps ws rs).map (fun n => decide (0 < n)), rfl, .inl (.inl (by rw [List.map_map]; exact e3)), ?_⟩
    have e : (((gaps ws rs).map fun n => decide (0 < n)).all id) = (gaps ws rs).all fun n => decide (0 < n) := by rw [List.all_map]; rfl
    rw [e]
    exact q H' (s1.trans e2)
end
end Mw

namespace Mw
open PySem L2
section
variable {P : Program} {w : World} {K : PySem.W.Frag} {mg : Str → Option Value} {base : Heap} {f : Addr} {fd : FuncData} {I : HandI} {cls : Nat → Addr} {ks : List Nat} {np ns tm xp : Addr}
theorem sc_gap_on : FnScope ["rows", "weights"] ["rows", "weights"] (defScope (top 14)) := ⟨rfl, rfl, rfl, by decide +kernel, rfl, by decide +kernel, by decide +kernel⟩
theorem ok_gap_on (F : Fun K "gap_on" "gap_on" (top 14) f fd) (T : Txt BN mg) (c_turned_products : Cal P w K mg base 3 "turned_products" ["rows", "weights"] (spTurnedAll K)) : FnOk P w K mg base CX0 4 f fd ["rows", "weights"] (spGap K) := by
  refine F.ok sc_gap_on (fun vs H Q E h => ?_) (fun cdv A outer s H vs Q E hr h => ?_)
  · obtain ⟨m, rs, ws, ⟨a, b, as, rfl, _⟩, _⟩ := h
    rfl
  obtain ⟨m, rs, ws, ⟨a, b, as, rfl, hA, hR, hO, hW, hw⟩, hne, q⟩ := h
  refine ⟨_, (pss_one (ps_ret (pe_callB (call_minL rfl) rfl (T.nb "min" (by decide)) (by decide +kernel) (pa_cons (pe_cal c_turned_products (hr.mono (by decide)) rfl (pa_cons (pv 0) (pa_cons (pv 1) pa_nil))) pa_nil)))), ?_⟩
  refine ⟨_, rfl, _, rfl, m, rs, ws, ⟨a, b, as, rfl, hA, hR, hO, hW, hw⟩, fun r H1 s1 hr0 hG => ?_⟩
  refine ⟨r, gaps ws rs, rfl, SqL.of hG, ?_, fun z h1 h2 => q z H1 s1 h1 h2⟩
  rw [gaps_length]
  exact List.length_pos_iff.mpr hne
end
end Mw

namespace Mw
open PySem L2
section
variable {P : Program} {w : World} {K : PySem.W.Frag} {mg : Str → Option Value} {base : Heap} {f : Addr} {fd : FuncData} {I : HandI} {cls : Nat → Addr} {ks : List Nat} {np ns tm xp : Addr}
theorem sc_farthest : FnScope ["rows"] ["rows"] (defScope (top 15)) := ⟨rfl, rfl, rfl, by decide +kernel, rfl, by decide +kernel, by decide +kernel⟩
theorem ok_farthest (F : Fun K "farthest" "farthest" (top 15) f fd) (T : Txt BN mg) (c_square : Cal P w K mg base 2 "square" ["one"] (spSquare K)) (c_lifted : Cal P w K mg base 1 "lifted" ["point"] (spLift K)) : FnOk P w K mg base CX0 3 f fd ["rows"] (spFar K) := by
  refine F.ok sc_farthest (fun vs H Q E h => ?_) (fun cdv A outer s H vs Q E hr h => ?_)
  · obtain ⟨a, as, m, rs, rfl, _⟩ := h
    rfl
  obtain ⟨a, as, m, rs, rfl, hA, hR, hO, q⟩ := h
  refine ⟨_, (pss_one (ps_ret (pe_callBK (call_maxD rfl) rfl (T.nb "max" (by decide)) (by decide +kernel) (pa_cons (pe_comp (sc := defScope (top 15)) (N := ["rows"]) (NB := ["point", "side"]) (fr := [none, none]) rfl (by decide +kernel) (pi_list (pv 0)) (fun _ _ _ _ => (pg_tupK (K := K) (n := 2) rfl rfl (pgs_cons (pg_name (i := 0) (show (["point", "side"] : List Str).Nodup by decide +kernel) rfl (Or.inl rfl)) (pgs_cons (pg_name (i := 1) (show (["point", "side"] : List Str).Nodup by decide +kernel) rfl (Or.inl rfl)) pgs_nil)))) (fun _ _ _ _ => .nil) (fun _ _ _ _ => (pe_cal c_square (hr.mono (by decide)) rfl (pa_cons (pe_cal c_lifted (hr.mono (by decide)) rfl (pa_cons (pv 0) pa_nil)) pa_nil)))) pa_nil) pe_int))), ?_⟩
  have hlen : as.length = rs.length := Paired.length hR
  refine ⟨_, rfl, a, rfl, ⟨_, hA⟩, fun D hD => ?_⟩
  refine comp_list (xs := as.map V.ref) (fun i zs H' => zs = (((rs.take i).map fun r => V.int (dot (r.1 ++ [1]) (r.1 ++ [1])))) ∧ Same H H' ∧ H' D = some (.lst zs)) ⟨by simp, Same.new hD _, upd_same⟩
    (fun i zs H' hi ⟨e1, _, e3⟩ => ⟨e3, by rw [e1, List.length_map, List.length_take]; omega⟩) (fun i zs H' _ ⟨_, e2, _⟩ => e2.seq hA) (by rw [List.length_map, hlen]; exact Nat.le_of_lt (small1000 (by have := hO.len; omega))) ?_ ?_
  · rintro i x zs H' hi ⟨e1, e2, e3⟩
    obtain ⟨y, hy, rfl⟩ := of_map hi
    obtain ⟨r, hr1, p, hq1, hq2⟩ := paired_get hR hy
    have hm := List.mem_of_getElem? hr1
    refine ⟨y, _, rfl, e2.seqT hq1, rfl, _, _, rfl, _, _, rfl, rfl, wk_none (n := 2) rfl, ?_⟩
    refine tYes_then ?_
    refine ⟨_, rfl, p, r.1, rfl, e2.seqT hq2, hO.ne hm, by rw [hO.cnt r hm]; have := hO.few; omega, fun t H1 s1 ht0 hT => ?_⟩
    refine ⟨t, true, r.1 ++ [1], rfl, SqT.of hT, by rw [List.length_append, hO.cnt r hm]; have := hO.few; show m + 1 ≤ 1000; omega, bits_snoc (by decide) (hO.bits hm (by decide)), fun H2 s2 => ?_⟩
    refine ⟨s2 _ _ (s1 _ _ e3), ?_, ((e2.trans s1).trans s2).upd_old hD, upd_same⟩
    rw [take_snoc hr1, List.map_append, e1]; rfl
  · rintro zs H' ⟨e1, e2, e3⟩
    rw [List.length_map, hlen, List.take_length] at e1
    subst e1
    refine ⟨D, rs.map (fun r => dot (r.1 ++ [1]) (r.1 ++ [1])), 0, rfl, rfl, .inl (.inl (by rw [List.map_map]; exact e3)), fun z hz => ?_⟩
    have e := maxF_eq (ns := rs.map fun r => dot (r.1 ++ [1]) (r.1 ++ [1])) (m := z) (fun n hn => by
      obtain ⟨r, _, rfl⟩ := List.mem_map.mp hn
      exact dot_self_nonneg _) hz
    rw [e]
    exact q H' e2
end
end Mw

namespace Mw
open PySem L2
section
variable {P : Program} {w : World} {K : PySem.W.Frag} {mg : Str → Option Value} {base : Heap} {f : Addr} {fd : FuncData} {I : HandI} {cls : Nat → Addr} {ks : List Nat} {np ns tm xp : Addr}
theorem sc_run_once : FnScope ["hand", "rows", "most", "book", "number", "row"] ["hand", "rows", "most", "book"] (defScope (top 17)) := ⟨rfl, rfl, rfl, by decide +kernel, rfl, by decide +kernel, by decide +kernel⟩
theorem ok_run_once (F : Fun K "run_once" "run_once" (top 17) f fd) (T : Txt BN mg) (X_TooMany : ExR K mg "TooMany" tm) (m_would_err : MCal P w K mg base 7 (Kds cls ks) "would_err" ["self", "point", "side"] (spWould K cls ks np ns)) (gm_put : MCal P w K mg base 20 (Kds cls ks) "put" ["self", "point", "side"] (spPutG K cls ks np ns)) : FnOk P w K mg base (CXE P w) 21 f fd ["hand", "rows", "most", "book"] (spOnce K cls ks tm) := by
  refine F.okX sc_run_once (fun vs H Q E h => ?_) (fun cdv A outer s H vs Q E hr h => ?_)
  · obtain ⟨a, b, c, as, rs, most, g, bk, J, rfl, _⟩ := h
    rfl
  obtain ⟨a, b, c, as, rs, most, g, bk, J, rfl, hA, hB, hbc, hR, hrl, hC, hbm, hm9, RJ, hJ, q, hE⟩ := h
  refine ⟨_, (pss_one (ps_for PassesOwn.leaving rfl (pi_enum rfl (T.nb "enumerate" (by decide)) (pa_cons (pv 1) pa_nil)) (pg_tupK (K := K) (n := 2) rfl rfl (pgs_cons (pg_name (i := 4) sc_run_once.nd rfl (Or.inl rfl)) (pgs_cons (pg_name (i := 5) sc_run_once.nd rfl (Or.inl rfl)) pgs_nil))) (pss_one (ps_if (pt_val (pe_methG (pv 0) m_would_err (hr.mono (by decide)) passG_out (pa_cons (pe_ix (ix_tupK (K := K) rfl) (pv 5) pe_int (fun _ _ => rfl)) (pa_cons (pe_ix (ix_tupK (K := K) rfl) (pv 5) pe_int (fun _ _ => rfl)) pa_nil)))) (pss_cons (ps_if (pt_cmpR op_ge (pe_callB (call_lenK (K := K) rfl) rfl (T.nb "len" (by decide)) (by decide +kernel) (pa_cons (pv 3) pa_nil)) (pv 2) (nomark _)) (pss_one (ps_raise rfl X_TooMany.c rfl X_TooMany.g raiseG_out (pa_cons pe_str pa_nil))) pss_nil)
      (pss_cons (ps_expr (pe_methG (pv 0) gm_put (hr.mono (by decide)) passG_out (pa_cons (pe_ix (ix_tupK (K := K) rfl) (pv 5) pe_int (fun _ _ => rfl)) (pa_cons (pe_ix (ix_tupK (K := K) rfl) (pv 5) pe_int (fun _ _ => rfl)) pa_nil))))
      (pss_one (ps_expr (pe_bm PySem.F.plainAttrs_list PySem.F.slot_list_append PySem.F.type_list_append mt_append (pv 3) (pa_cons (pv 4) pa_nil)))))) pss_nil)))), ?_⟩
  have hal : as.length = rs.length := Paired.length hR
  refine ⟨_, rfl, b, rfl, ⟨_, hB⟩, ?_⟩
  refine for_enum (xs := as.map V.ref) (fun i σ H' => ∃ (g' : Gnd) (bk' : List Nat) (v4 v5 : Option V), σ = [some (.ref a), some (.ref b), some (.int most), some (.ref c), v4, v5] ∧ KpL [a] c H H' ∧ GAt cls ks H' a g' ∧ H' c = some (.lst (numsV bk')) ∧ J i g' bk' ∧ bk.length ≤ bk'.length ∧ (bk'.length : Int) ≤ most ∧
      (bk'.length = bk.length → g' = g ∧ bk' = bk ∧ ∀ r ∈ rs.take i, g.wrong r.1 r.2 = false))
    ⟨g, bk, none, none, rfl, KpL.refl, hA, hC, hJ, Nat.le_refl _, hbm, fun _ => ⟨rfl, rfl, fun r hr => by simp at hr⟩⟩
    (fun i σ H' _ ⟨_, _, _, _, _, kp, _⟩ => kp.seq hbc hB) ?_ ?_
  · rintro i x T0 σ H' hx hT0 ⟨g', bk', v4, v5, rfl, kp, hA', hC', hJ', h1, h2, h3⟩
    obtain ⟨A, hA1, rfl⟩ := of_map hx
    obtain ⟨r, hr1, p, hr2, hr3⟩ := paired_get hR hA1
    have sT := Same.new hT0 (.tup [.int (i : Nat), .ref A])
    have hCT : upd H' T0 (.tup [.int (i : Nat), .ref A]) c = some (.lst (numsV bk')) := sT _ _ hC'
    have hAT := hA'.same sT
    have kpT : KpL [a] c H (upd H' T0 (.tup [.int (i : Nat), .ref A])) := kp.trans (KpL.of (Kp.of sT))
    have hTT : upd H' T0 (.tup [.int (i : Nat), .ref A]) T0 = some (.tup [.int (i : Nat), .ref A]) := upd_same
    generalize upd H' T0 (.tup [.int (i : Nat), .ref A]) = HT at *
    obtain ⟨hok, hsm⟩ := RJ.ok _ _ _ hJ'
    obtain ⟨hpt, hhas⟩ := RJ.row _ _ _ _ hJ' hr1
    have hAr : SqT K HT A [.ref p, .int r.2] := kpT.seqT hC hr2
    have hPr : SqT K HT p (r.1.map V.int) := kpT.seqT hC hr3
    refine ⟨T0, _, rfl, SqT.of hTT, rfl, _, _, rfl, _, _, rfl, rfl, ?_⟩
    obtain ⟨C, dx, fs, hi, hk, hno⟩ := hAT.ins
    refine ⟨_, rfl, a, C, dx, fs, rfl, hi, hk, hno _ (by decide +kernel), _, rfl, A, _, _, _, rfl, rfl, hAr, rfl, _, rfl, A, _, _, _, rfl, rfl, hAr, rfl, ⟨_, _, hi⟩, a, p, g', r.1, r.2, rfl, hAT, hok, hsm, hPr, fun n => absurd (Gnd.pt_len hpt) n, fun _ n => (by rw [hhas] at n; cases n), fun _ _ => ⟨hpt, fun H2 s2 => ?_⟩⟩
    have kp2 := kpT.trans (KpL.of (c := c) (S := [a]) (Kp.of s2))
    have hC2 := s2 _ _ hCT
    refine ⟨_, rfl, ?_⟩
    refine iteB (fun hw => ?_) (fun hw => ?_)
    · refine ⟨_, rfl, c, _, rfl, .inl (SqL.of hC2), _, rfl, _, _, rfl, rfl, _, rfl, ?_⟩
      refine iteD (fun z => ?_) (fun z => ?_)
      · refine ⟨(by show 1 ≤ sizeLine; decide), hE i g' bk' r H2 kp2 (hAT.same s2) hJ' hr1 hw ?_⟩
        have z1 : most ≤ ((numsV bk').length : Int) := z
        rw [List.length_map] at z1
        omega
      · have hlt : (bk'.length : Int) < most := by
          have z1 : ¬ most ≤ ((numsV bk').length : Int) := z
          rw [List.length_map] at z1
          omega
        have hA2 := hAT.same s2
        obtain ⟨C, dx, fs, hi, hk, hno⟩ := hA2.ins
        refine ⟨_, rfl, a, C, dx, fs, rfl, hi, hk, hno _ (by decide +kernel), _, rfl, A, _, _, _, rfl, rfl, s2.seqT hAr, rfl, _, rfl, A, _, _, _, rfl, rfl, s2.seqT hAr, rfl, ⟨_, _, hi⟩, a, p, g', r.1, r.2, rfl, hA2, hok, hsm, s2.seqT hPr, fun n => absurd (Gnd.pt_len hpt) n, fun _ n => (by rw [hhas] at n; cases n), fun _ _ => ⟨hpt, fun H3 k3 hA3 => ?_⟩⟩
        have hC3 : H3 c = some (.lst (numsV bk')) := k3.lst hC2
        refine ⟨_, rfl, .inl ⟨rfl, _, SqL.of hC3⟩, _, rfl, c, _, _, rfl, rfl, hC3, ?_, ?_⟩
        · rw [List.length_map]
          have : (9000 : Nat) < sizeLine := by rw [sizeLine_eq]; decide
          omega
        refine ⟨g'.step r.1 r.2, bk' ++ [i], _, _, rfl, (kp2.trans (KpL.of k3)).upd, hA3.keepL hC3 OffD.upd, ?_, RJ.mist _ _ _ _ hJ' hr1 hw hlt, ?_, ?_, fun n => ?_⟩
        · rw [upd_same]; simp [numsV]
        · rw [List.length_append]; omega
        · rw [List.length_append, List.length_singleton]; omega
        · rw [List.length_append, List.length_singleton] at n; omega
    · refine ⟨g', bk', _, _, rfl, kp2, hAT.same s2, hC2, RJ.right _ _ _ _ hJ' hr1 hw, h1, h2, fun n => ?_⟩
      obtain ⟨e1, e2, e3⟩ := h3 n
      refine ⟨e1, e2, fun y hy => ?_⟩
      rw [take_snoc hr1] at hy
      rcases List.mem_append.mp hy with z | z
      · exact e3 y z
      · rw [List.mem_singleton.mp z, ← e1]; exact hw
  · rintro σ H' ⟨g', bk', v4, v5, rfl, kp, hA', hC', hJ', h1, h2, h3⟩
    rw [List.length_map, hal] at hJ' h3
    rw [List.take_length] at h3
    exact q g' bk' H' kp hA' hC' hJ' h1 h2 h3
end
end Mw

namespace Mw
open PySem L2
section
variable {P : Program} {w : World} {K : PySem.W.Frag} {mg : Str → Option Value} {base : Heap} {f : Addr} {fd : FuncData} {I : HandI} {cls : Nat → Addr} {ks : List Nat} {np ns tm xp : Addr}
theorem sc_run : FnScope ["hand", "rows", "most", "book", "before"] ["hand", "rows", "most"] (defScope (top 18)) := ⟨rfl, rfl, rfl, by decide +kernel, rfl, by decide +kernel, by decide +kernel⟩
theorem ok_run {dT : Addr} {dds : List Value} (F : FunD K "run" "run" (top 18) dT dds f fd) (T : Txt BN mg) (c_run_once : CalX P w K mg base 21 "run_once" ["hand", "rows", "most", "book"] (spOnce K cls ks tm)) : FnOk P w K mg base (CXE P w) 22 f fd ["hand", "rows", "most"] (spRun K cls ks tm) := by
  refine F.okX sc_run (fun vs H Q E h => ?_) (fun cdv A outer s H vs Q E hr h => ?_)
  · obtain ⟨a, b, as, rs, most, g, J, rfl, _⟩ := h
    rfl
  obtain ⟨a, b, as, rs, most, g, J, rfl, hA, hB, hR, hrl, hm0, hm9, RJ, hJ, q, hE⟩ := h
  refine ⟨_, (pss_cons (ps_set (i := 3) sc_run.nd rfl (Or.inl rfl) (pe_lst pa_nil))
      (pss_cons (ps_set (i := 4) sc_run.nd rfl (Or.inl rfl) pe_non)
      (pss_cons (ps_while PassesOwn.leaving (pt_cmpR op_ne (pv 4) (pe_callB (call_lenK (K := K) rfl) rfl (T.nb "len" (by decide)) (by decide +kernel) (pa_cons (pv 3) pa_nil)) (nomark _)) (pss_cons (ps_set (i := 4) sc_run.nd rfl (Or.inl rfl) (pe_callB (call_lenK (K := K) rfl) rfl (T.nb "len" (by decide)) (by decide +kernel) (pa_cons (pv 3) pa_nil)))
      (pss_one (ps_expr (pe_calG c_run_once (hr.mono (by decide)) rfl passG_out (pa_cons (pv 0) (pa_cons (pv 1) (pa_cons (pv 2) (pa_cons (pv 3) pa_nil)))))))))
      (pss_one (ps_ret (pv 3)))))), ?_⟩
  refine ⟨(by show 0 ≤ sizeLine; decide), fun c hc => ?_⟩
  have s1 := Same.new hc (.lst [])
  have hC1 : upd H c (.lst []) c = some (.lst (numsV [])) := upd_same
  have hA1 := hA.same s1
  have hB1 : SqL K (upd H c (.lst [])) b (as.map V.ref) := SqL.of (s1 _ _ hB)
  have hR1 := hR.same s1
  have hbc : b ≠ c := ne_of_none hB hc
  generalize upd H c (.lst []) = H1 at *
  refine while_by (fun σ H' => ∃ (g' : Gnd) (bk : List Nat) (bv : V), σ = [some (.ref a), some (.ref b), some (.int most), some (.ref c), some bv] ∧ KpL [a] c H1 H' ∧ GAt cls ks H' a g' ∧ H' c = some (.lst (numsV bk)) ∧ J 0 g' bk ∧ (bk.length : Int) ≤ most ∧
      (bv = .non ∨ ∃ n : Nat, bv = .int n ∧ n ≤ bk.length ∧ (n = bk.length → ∀ r ∈ rs, g'.wrong r.1 r.2 = false)))
    (fun σ _ => match σ with | [_, _, some (.int m), _, some (.int n)] => (m - n).toNat | [_, _, some (.int m), _, _] => m.toNat + 1 | _ => 0)
    ⟨g, [], .non, rfl, KpL.refl, hA1, hC1, hJ, by simpa using hm0, .inl rfl⟩ ?_ (fun σ H Q Q' m h => ?_)
  · rintro σ H2 ⟨g', bk, bv, rfl, kp, hA', hC', hJ', hbl, hbv⟩
    have hsc : scal bv (.int ((numsV bk).length : Int)) = true := by
      rcases hbv with rfl | ⟨n, rfl, _⟩ <;> rfl
    refine ⟨_, rfl, _, rfl, c, _, rfl, .inl (SqL.of hC'), hsc, _, rfl, ?_⟩
    refine iteND (fun z => ?_) (fun z => ?_)
    · refine ⟨_, rfl, c, _, rfl, .inl (SqL.of hC'), ?_⟩
      refine ⟨_, rfl, _, rfl, _, rfl, _, rfl, a, b, c, as, rs, most, g', bk, J, rfl, hA', kp.seq hbc hB1, hbc, kp.rows hC1 hR1, hrl, hC', hbl, hm9, RJ, hJ', fun g2 bk2 H3 k3 hA3 hC3 hJ3 h1 h2 h3 => ?_, fun i g2 bk2 r H3 k3 hA3 hJ3 hr hw hl => ?_⟩
      · refine ⟨⟨g2, bk2, .int ((numsV bk).length : Int), rfl, kp.trans k3, hA3, hC3, RJ.again _ _ hJ3, h2, .inr ⟨bk.length, by rw [List.length_map], h1, fun n => ?_⟩⟩, ?_⟩
        · obtain ⟨e1, e2, e3⟩ := h3 n.symm
          rw [e1]; exact e3
        · rw [List.length_map]
          rcases hbv with rfl | ⟨n, rfl, hn1, hn2⟩
          · show (most - (bk.length : Int)).toNat < most.toNat + 1
            omega
          · show (most - (bk.length : Int)).toNat < (most - (n : Int)).toNat
            have : n ≠ bk.length := fun y => z (by rw [y, List.length_map])
            omega
      · exact hE i g2 bk2 r H3 ((kp.trans k3).kp s1 hc) hA3 hJ3 hr hw hl
    · rcases hbv with rfl | ⟨n, rfl, hn1, hn2⟩
      · cases z
      · have en : n = bk.length := by
          have z1 : V.int (n : Int) = V.int ((numsV bk).length : Int) := z
          rw [List.length_map] at z1
          injection z1 with z2
          omega
        exact ⟨_, rfl, q g' bk c H2 (kp.kp s1 hc) hA' hc hC' hJ' hbl (hn2 en)⟩
  · obtain ⟨v, e, v2, e2, p, ys, e3, h1, h2, k, ek, qq⟩ := h
    exact ⟨v, e, v2, e2, p, ys, e3, h1, h2, k, ek, m _ _ qq⟩
end
end Mw

namespace Mw
open PySem L2
section
variable {P : Program} {w : World} {K : PySem.W.Frag} {mg : Str → Option Value} {base : Heap} {f : Addr} {fd : FuncData} {I : HandI} {cls : Nat → Addr} {ks : List Nat} {np ns tm xp : Addr}
theorem sc_bound_of : FnScope ["rows", "weights", "margin", "gap"] ["rows", "weights", "margin"] (defScope (top 19)) := ⟨rfl, rfl, rfl, by decide +kernel, rfl, by decide +kernel, by decide +kernel⟩
theorem ok_bound_of {dT : Addr} {dds : List Value} (F : FunD K "bound_of" "bound_of" (top 19) dT dds f fd) (T : Txt BN mg) (X_NotParted : ExR K mg "NotParted" xp) (c_are_parted : Cal P w K mg base 4 "are_parted" ["rows", "weights"] (spParted K)) (c_gap_on : Cal P w K mg base 4 "gap_on" ["rows", "weights"] (spGap K)) (c_farthest : Cal P w K mg base 3 "farthest" ["rows"] (spFar K)) (c_square : Cal P w K mg base 2 "square" ["one"] (spSquare K)) : FnOk P w K mg base (CXE P w) 6 f fd ["rows", "weights", "margin"] (spBnd K xp) := by
  refine F.okX sc_bound_of (fun vs H Q E h => ?_) (fun cdv A outer s H vs Q E hr h => ?_)
  · obtain ⟨a, b, as, m, rs, ws, mg, rfl, _⟩ := h
    rfl
  obtain ⟨a, b, as, m, rs, ws, mg, rfl, hA, hR, hO, hB, hl, hw, hm0, hm1, hE, q0, q⟩ := h
  refine ⟨_, (pss_cons (ps_if (pt_not (pt_val (pe_cal c_are_parted (hr.mono (by decide)) rfl (pa_cons (pv 0) (pa_cons (pv 1) pa_nil))))) (pss_one (ps_raise rfl X_NotParted.c rfl X_NotParted.g raiseG_out (pa_cons pe_str pa_nil))) pss_nil)
      (pss_cons (ps_if (pt_cmpR op_eq (pe_callB (call_lenK (K := K) rfl) rfl (T.nb "len" (by decide)) (by decide +kernel) (pa_cons (pv 0) pa_nil)) pe_int (nomark _)) (pss_one (ps_ret pe_int)) pss_nil)
      (pss_cons (ps_set (i := 3) sc_bound_of.nd rfl (Or.inl rfl) (pe_cal c_gap_on (hr.mono (by decide)) rfl (pa_cons (pv 0) (pa_cons (pv 1) pa_nil))))
      (pss_one (ps_ret (pe_op op_fdivP (pe_op op_mulB (pe_op op_add (pe_cal c_farthest (hr.mono (by decide)) rfl (pa_cons (pv 0) pa_nil)) (pe_op op_mulB pe_int (pv 2))) (pe_cal c_square (hr.mono (by decide)) rfl (pa_cons (pv 1) pa_nil))) (pe_op op_mulB (pv 3) (pv 3)))))))), ?_⟩
  have hW : WOk ws := ⟨by omega, fun x hx => (small_bits9 (hw x hx)).mono (by decide)⟩
  refine ⟨_, rfl, _, rfl, m, rs, ws, ⟨a, b, as, rfl, hA, hR, hO, hB, hW⟩, fun H1 s1 => ⟨_, rfl, ?_⟩⟩
  cases hb : ((gaps ws rs).all fun n => decide (0 < n)) with
  | false =>
    refine iteT ?_
    exact ⟨(by show 1 ≤ sizeLine; decide), hE hb H1 s1⟩
  | true =>
    refine iteF ?_
    have hal : as.length = rs.length := Paired.length hR
    refine ⟨_, rfl, a, _, rfl, .inl (s1.seq hA), rfl, _, rfl, ?_⟩
    refine iteD (fun z => ?_) (fun z => ?_)
    · have z1 : as.length = 0 := by rw [List.length_map] at z; injection z with z2; omega
      exact q0 (List.length_eq_zero_iff.mp (by omega)) H1 s1
    · have hne : rs ≠ [] := fun y => z (by rw [List.length_map, hal, y]; rfl)
      refine ⟨_, rfl, _, rfl, m, rs, ws, ⟨a, b, as, rfl, s1.seq hA, hR.same s1, hO, s1.seqT hB, hW⟩, hne, fun gz H2 s2 hz1 hz2 => ?_⟩
      have s12 := s1.trans s2
      have hgp : 0 < gz := of_decide_eq_true (List.all_eq_true.mp hb gz hz1)
      have hgb := gap_abs hO hl hw hz1
      obtain ⟨f0, f1⟩ := far_abs hO
      obtain ⟨q1, q2⟩ := sq_abs hl hw
      refine ⟨_, rfl, a, as, m, rs, rfl, s12.seq hA, hR.same s12, hO, fun H3 s3 => ?_⟩
      have s13 := s12.trans s3
      refine ⟨_, rfl, _, _, rfl, rfl, mul64 (by decide) (by decide) (by omega) (by omega), _, _, rfl, rfl, _, rfl, b, true, ws, rfl, s13.seqT hB, by omega, fun x hx => (small_bits9 (hw x hx)).mono (by decide), fun H4 s4 => ?_⟩
      have hgg : 0 < gz * gz := Int.mul_pos hgp hgp
      have hggb : (gz * gz).natAbs ≤ 10000000000000 * 10000000000000 := by rw [Int.natAbs_mul]; exact Nat.mul_le_mul hgb hgb
      refine ⟨_, _, rfl, rfl, ⟨1000, by decide, bits_of_abs (by show (farF rs + 2 * mg).natAbs ≤ _; omega) (by decide), bits_of_abs (by omega) (by decide)⟩, _, rfl, _, rfl, _, _, rfl, rfl, ⟨1000, by decide, bits_of_abs (by omega) (by decide), bits_of_abs (by omega) (by decide)⟩, _, _, rfl, rfl, ⟨hgg, bits_of_abs (by omega) (by decide)⟩, ?_⟩
      exact q hb hne gz H4 (s13.trans s4) hz1 hz2
end
end Mw

namespace Mw
open PySem L2
section
variable {P : Program} {w : World} {K : PySem.W.Frag} {mg : Str → Option Value} {base : Heap} {f : Addr} {fd : FuncData} {I : HandI} {cls : Nat → Addr} {ks : List Nat} {np ns tm xp : Addr}
theorem sc_moved : FnScope ["weights", "point", "times"] ["weights", "point", "times"] (defScope (top 21)) := ⟨rfl, rfl, rfl, by decide +kernel, rfl, by decide +kernel, by decide +kernel⟩
theorem ok_moved (F : Fun K "moved" "moved" (top 21) f fd) (T : Txt BN mg) (c_lifted : Cal P w K mg base 1 "lifted" ["point"] (spLift K)) : FnOk P w K mg base CX0 2 f fd ["weights", "point", "times"] (spMv K) := by
  refine F.ok sc_moved (fun vs H Q E h => ?_) (fun cdv A outer s H vs Q E hr h => ?_)
  · obtain ⟨a, b, ws, xs, c, rfl, _⟩ := h
    rfl
  obtain ⟨a, b, ws, xs, c, rfl, hA, hB, hne, hl, hw, hc, hlow0, q⟩ := h
  refine ⟨_, (pss_one (ps_ret (pe_callTy (call_tupleK (K := K) rfl) rfl (T.nb "tuple" (by decide)) (by decide +kernel) (pa_cons (pe_comp (sc := defScope (top 21)) (N := ["weights", "point", "times"]) (NB := ["weight", "number", "times"]) (fr := [none, none, some 2]) rfl (by decide +kernel) (pi_zip rfl (T.nb "zip" (by decide)) (pa_cons (pv 0) (pa_cons (pe_cal c_lifted (hr.mono (by decide)) rfl (pa_cons (pv 1) pa_nil)) pa_nil))) (fun _ _ _ _ => (pg_tupK (K := K) (n := 2) rfl rfl (pgs_cons (pg_name (i := 0) (show (["weight", "number", "times"] : List Str).Nodup by decide +kernel) rfl (Or.inl rfl)) (pgs_cons (pg_name (i := 1) (show (["weight", "number", "times"] : List Str).Nodup by decide +kernel) rfl (Or.inl rfl)) pgs_nil)))) (fun _ _ _ _ => .nil) (fun _ _ _ _ => (pe_op op_add (pv 0) (pe_op op_mulB (pv 2) (pv 1))))) pa_nil)))), ?_⟩
  have hlow := Hnd.low_snoc hlow0
  refine ⟨_, rfl, _, rfl, b, xs, rfl, hB, hne, hl, fun r H2 s2 hr2 hR => ?_⟩
  refine ⟨true, true, a, r, rfl, ⟨_, s2.seqT hA⟩, ⟨_, SqT.of hR⟩, fun D hD => ?_⟩
  refine comp_zip (us := ws.map V.int) (vs := (xs ++ [1]).map V.int) (fun j zs H' => zs = ((mv c ws (xs ++ [1])).take j).map V.int ∧ Same H2 H' ∧ H' D = some (.lst zs)) ⟨by simp, Same.new hD _, upd_same⟩
    (fun j zs H' hj ⟨f1, _, f3⟩ => ⟨f3, by rw [f1, List.length_map, List.length_take]; omega⟩) (fun j zs H' _ ⟨_, f2, _⟩ => ⟨f2.seqT (s2.seqT hA), SqT.of (f2 _ _ hR)⟩) (by rw [List.length_map]; exact Nat.le_of_lt (small1000 (by omega))) ?_ ?_
  · rintro j x2 y2 T1 zs H' hx2 hy2 hT1 ⟨f1, f2, f3⟩
    obtain ⟨w1, hw1, rfl⟩ := of_map hx2
    obtain ⟨n1, hn1, rfl⟩ := of_map hy2
    have hTD : D ≠ T1 := ne_of_none f3 hT1
    have hnl := hlow n1 (List.mem_of_getElem? hn1)
    refine ⟨T1, _, rfl, SqT.of upd_same, rfl, _, _, rfl, _, _, rfl, rfl, ⟨rfl, ?_⟩, ?_⟩
    · intro k v ek
      match k, ek with
      | 2, ek => exact ek
      | 0, ek => simp [carry] at ek
      | 1, ek => simp [carry] at ek
      | k + 3, ek => simp [carry] at ek
    refine tYes_then ?_
    refine ⟨_, rfl, _, rfl, _, rfl, _, _, rfl, rfl, mul64 (by rcases hc with rfl | rfl <;> decide) (by rcases hc with rfl | rfl <;> decide) (by omega) (by omega), _, _, rfl, rfl, by rw [upd_ne hTD]; exact f3, ?_, (f2.trans (Same.new hT1 _)).upd_old hD, upd_same⟩
    unfold mv at f1 ⊢
    rw [take_snoc (zipWith_get hw1 hn1), List.map_append, f1]; rfl
  · rintro zs H3 ⟨f1, f2, f3⟩
    have f4 : zs = (mv c ws (xs ++ [1])).map V.int := by
      rw [f1, List.take_of_length_le]
      unfold mv
      rw [List.length_zipWith, List.length_map, List.length_map]; exact Nat.le_refl _
    subst f4
    refine ⟨D, _, rfl, .inl ⟨SqL.of f3, fun t2 ht2 => ?_⟩⟩
    have s3 := s2.trans (f2.trans (Same.new ht2 (.tup ((mv c ws (xs ++ [1])).map V.int))))
    refine q t2 _ s3 ((s2.trans f2).free ht2) upd_same
end
end Mw

namespace Mw
open PySem L2
section
variable {P : Program} {w : World} {K : PySem.W.Frag} {mg : Str → Option Value} {base : Heap} {f : Addr} {fd : FuncData} {I : HandI} {cls : Nat → Addr} {ks : List Nat} {np ns tm xp : Addr}
theorem sc__law_cell_at : FnScope ["_law_script", "_law_k"] ["_law_script", "_law_k"] (defScope (top 26)) := ⟨rfl, rfl, rfl, by decide +kernel, rfl, by decide +kernel, by decide +kernel⟩
theorem ok__law_cell_at (F : Fun K "_law_cell_at" "_law_cell_at" (top 26) f fd) (T : Txt BN mg) : FnOk P w K mg base CX0 1 f fd ["_law_script", "_law_k"] (spCell K) := by
  refine F.ok sc__law_cell_at (fun vs H Q E h => ?_) (fun cdv A outer s H vs Q E hr h => ?_)
  · obtain ⟨a, ns, k, rfl, _⟩ := h
    rfl
  obtain ⟨a, ns, k, rfl, hA, hk, q⟩ := h
  refine ⟨_, (pss_cons (ps_if (pt_cmpR op_lt (pv 1) (pe_callB (call_lenK (K := K) rfl) rfl (T.nb "len" (by decide)) (by decide +kernel) (pa_cons (pv 0) pa_nil)) (nomark _)) (pss_one (ps_ret (pe_ix (ix_listK (K := K) rfl) (pv 0) (pv 1) (fun _ _ => rfl)))) pss_nil)
      (pss_one (ps_ret pe_int))), ?_⟩
  refine ⟨_, rfl, _, rfl, a, _, rfl, .inl hA, _, _, rfl, rfl, _, rfl, ?_⟩
  refine iteD (fun hlt => ?_) (fun _ => ?_)
  · rw [List.length_map] at hlt
    exact ⟨_, rfl, _, rfl, a, _, _, _, rfl, rfl, hA, at_cell hk hlt, q⟩
  · rename_i hge
    rw [List.length_map] at hge
    rw [cell_out hk hge] at q
    exact q
end
end Mw

namespace Mw
open PySem L2
section
variable {P : Program} {w : World} {K : PySem.W.Frag} {mg : Str → Option Value} {base : Heap} {f : Addr} {fd : FuncData} {I : HandI} {cls : Nat → Addr} {ks : List Nat} {np ns tm xp : Addr}
theorem sc__law_mixed : FnScope ["_law_script", "_law_k", "_law_cell", "_law_first"] ["_law_script", "_law_k"] (defScope (top 27)) := ⟨rfl, rfl, rfl, by decide +kernel, rfl, by decide +kernel, by decide +kernel⟩
theorem ok__law_mixed (F : Fun K "_law_mixed" "_law_mixed" (top 27) f fd) (T : Txt BN mg) (c__law_cell_at : Cal P w K mg base 1 "_law_cell_at" ["_law_script", "_law_k"] (spCell K)) : FnOk P w K mg base CX0 2 f fd ["_law_script", "_law_k"] (spMixed2 K) := by
  refine F.ok sc__law_mixed (fun vs H Q E h => ?_) (fun cdv A outer s H vs Q E hr h => ?_)
  · obtain ⟨a, ns, k, rfl, _⟩ := h
    rfl
  obtain ⟨a, ns, k, rfl, hA, h0, h1, q⟩ := h
  refine ⟨_, (pss_cons (ps_set (i := 2) sc__law_mixed.nd rfl (Or.inl rfl) (pe_op op_mod (pe_cal c__law_cell_at (hr.mono (by decide)) rfl (pa_cons (pv 0) (pa_cons (pe_op op_add pe_int (pe_op op_mod (pv 1) pe_int)) pa_nil))) (pe_op op_pow pe_int pe_int)))
      (pss_cons (ps_set (i := 3) sc__law_mixed.nd rfl (Or.inl rfl) (pe_op op_mod (pe_op op_add (pe_op op_mulB (pv 2) pe_int) (pe_op op_mulB (pe_op op_mulB (pe_op op_add (pv 1) pe_int) (pe_op op_add (pv 1) pe_int)) pe_int)) pe_int))
      (pss_one (ps_ret (pe_op op_mod (pe_op op_add (pe_op op_add (pe_op op_mulB (pe_op op_fdivP (pv 3) pe_int) pe_int) (pe_op op_mulB (pv 3) (pe_op op_add (pe_op op_mulB (pv 1) (pv 1)) pe_int))) (pv 1)) pe_int))))), ?_⟩
  refine ⟨_, rfl, _, rfl, _, _, rfl, rfl, (by show (0 : Int) < 62; decide), _, _, rfl, rfl, a, ns, _, rfl, hA, (by have := Int.emod_nonneg k (show (62 : Int) ≠ 0 by decide); show 0 ≤ 1 + k % 62; omega), _, _, rfl, rfl, ⟨by decide, by decide, by decide⟩, _, _, rfl, rfl, (by show (0 : Int) < 10 ^ 20; decide), ?_⟩
  generalize cellF ns (1 + k % 62).toNat = cc
  have hc0 : 0 ≤ cc % 10 ^ Int.toNat 20 := Int.emod_nonneg cc (show (10 ^ 20 : Int) ≠ 0 by decide)
  have hc1 : cc % 10 ^ Int.toNat 20 < 100000000000000000000 := Int.emod_lt_of_pos cc (show (0 : Int) < 100000000000000000000 by decide)
  have hb : CMulB (cc % 10 ^ Int.toNat 20) 48271 := by
    generalize cc % 10 ^ Int.toNat 20 = c at *
    refine ⟨200, by decide, ?_, by show (48271 : Int).natAbs < 2 ^ 200; decide⟩
    show c.natAbs < 2 ^ 200
    have e : (2 : Nat) ^ 200 = 1606938044258990275541962092341162602522202993782792835301376 := by decide
    omega
  have hkk : (k + 3) * (k + 11) ≤ 1000003 * 1000011 := Int.mul_le_mul (by omega) (by omega) (by omega) (by decide)
  have hkk0 : 0 ≤ (k + 3) * (k + 11) := Int.mul_nonneg (by omega) (by omega)
  have hk2 : k * k ≤ 1000000 * 1000000 := Int.mul_le_mul (by omega) (by omega) (by omega) (by decide)
  have hk20 : 0 ≤ k * k := Int.mul_nonneg (by omega) (by omega)
  refine ⟨_, rfl, _, _, rfl, rfl, hb, _, rfl, _, _, rfl, rfl, _, rfl, _, _, rfl, rfl, _, _, rfl, rfl, mul64 (by show _ < k + 3; omega) (by show k + 3 < _; omega) (by show _ < k + 11; omega) (by show k + 11 < _; omega), _, _, rfl, rfl, mul64 (by show _ < (k + 3) * (k + 11); omega) (by show (k + 3) * (k + 11) < _; omega) (by decide) (by decide), _, _, rfl, rfl, _, _, rfl, rfl, (by show (0 : Int) < 2147483647; decide), ?_⟩
  have m0 := Int.emod_nonneg (cc % 10 ^ Int.toNat 20 * 48271 + (k + 3) * (k + 11) * 69621) (show (2147483647 : Int) ≠ 0 by decide)
  have m1 := Int.emod_lt_of_pos (cc % 10 ^ Int.toNat 20 * 48271 + (k + 3) * (k + 11) * 69621) (show (0 : Int) < 2147483647 by decide)
  have m2 : 0 ≤ (cc % 10 ^ Int.toNat 20 * 48271 + (k + 3) * (k + 11) * 69621) % 2147483647 / 977 := Int.ediv_nonneg m0 (by decide)
  have m3 : (cc % 10 ^ Int.toNat 20 * 48271 + (k + 3) * (k + 11) * 69621) % 2147483647 / 977 ≤ _ := Int.ediv_le_self _ m0
  refine ⟨_, rfl, _, _, rfl, rfl, div64 (by decide) (by decide), _, _, rfl, rfl, mul64 (Int.lt_of_lt_of_le (by decide) m2) (Int.lt_of_le_of_lt m3 (Int.lt_trans m1 (by decide))) (by decide) (by decide), _, rfl, _, rfl, _, rfl, _, _, rfl, rfl, mul64 (by omega) (by omega) (by omega) (by omega), _, _, rfl, rfl, _, _, rfl, rfl, mul64 (Int.lt_of_lt_of_le (by decide) m0) (Int.lt_trans m1 (by decide)) (by show _ < k * k + 7; omega) (by show k * k + 7 < _; omega), _, _, rfl, rfl, _, rfl, _, _, rfl, rfl, _, _, rfl, rfl, (by show (0 : Int) < 2147483587; decide), ?_⟩
  exact q _ (Int.emod_nonneg _ (by decide))
end
end Mw

namespace Mw
open PySem L2
section
variable {P : Program} {w : World} {K : PySem.W.Frag} {mg : Str → Option Value} {base : Heap} {f : Addr} {fd : FuncData} {I : HandI} {cls : Nat → Addr} {ks : List Nat} {np ns tm xp : Addr}
theorem sc__law_drawn : FnScope ["_law_script", "_law_tops", "_law_found", "_law_cell", "_law_k", "_law_top"] ["_law_script", "_law_tops"] (defScope (top 28)) := ⟨rfl, rfl, rfl, by decide +kernel, rfl, by decide +kernel, by decide +kernel⟩
theorem ok__law_drawn (F : Fun K "_law_drawn" "_law_drawn" (top 28) f fd) (T : Txt BN mg) (c__law_cell_at : Cal P w K mg base 1 "_law_cell_at" ["_law_script", "_law_k"] (spCell K)) (c__law_mixed : Cal P w K mg base 2 "_law_mixed" ["_law_script", "_law_k"] (spMixed2 K)) : FnOk P w K mg base CX0 3 f fd ["_law_script", "_law_tops"] (spDrawn K) := by
  refine F.ok sc__law_drawn (fun vs H Q E h => ?_) (fun cdv A outer s H vs Q E hr h => ?_)
  · obtain ⟨a, b, ns, ts, rfl, _⟩ := h
    rfl
  obtain ⟨a, b, ns, ts, rfl, hA, hB, hT, q⟩ := h
  refine ⟨_, (pss_cons (ps_set (i := 2) sc__law_drawn.nd rfl (Or.inl rfl) (pe_lst pa_nil))
      (pss_cons (ps_set (i := 3) sc__law_drawn.nd rfl (Or.inl rfl) pe_int)
      (pss_cons (ps_for PassesOwn.never rfl (pi_enum rfl (T.nb "enumerate" (by decide)) (pa_cons (pv 1) pa_nil)) (pg_tupK (K := K) (n := 2) rfl rfl (pgs_cons (pg_name (i := 4) sc__law_drawn.nd rfl (Or.inl rfl)) (pgs_cons (pg_name (i := 5) sc__law_drawn.nd rfl (Or.inl rfl)) pgs_nil))) (pss_cons (ps_join (ps_if (pt_cmpR op_eq (pe_op op_mod (pv 4) pe_int) pe_int (nomark _)) (pss_one (ps_set (i := 3) sc__law_drawn.nd rfl (Or.inl rfl) (pe_cal c__law_cell_at (hr.mono (by decide)) rfl (pa_cons (pv 0) (pa_cons (pe_op op_add pe_int (pe_op op_fdivP (pv 4) pe_int)) pa_nil))))) pss_nil))
      (pss_one (ps_if (PW.pt (pw_or (pt_cmpR op_eq (pe_op op_mod (pe_cal c__law_cell_at (hr.mono (by decide)) rfl (pa_cons (pv 0) (pa_cons pe_int pa_nil))) pe_int) pe_int (nomark _)) (pw_or1 (pt_cmpR op_eq (pv 3) pe_int (nomark _))))) (pss_one (ps_expr (pe_bm PySem.F.plainAttrs_list PySem.F.slot_list_append PySem.F.type_list_append mt_append (pv 2) (pa_cons (pe_op op_mod (pe_cal c__law_mixed (hr.mono (by decide)) rfl (pa_cons (pv 0) (pa_cons (pv 4) pa_nil))) (pv 5)) pa_nil)))) (pss_cons (ps_expr (pe_bm PySem.F.plainAttrs_list PySem.F.slot_list_append PySem.F.type_list_append mt_append (pv 2) (pa_cons (pe_op op_mod (pv 3) (pv 5)) pa_nil)))
      (pss_one (ps_set (i := 3) sc__law_drawn.nd rfl (Or.inl rfl) (pe_op op_fdivP (pv 3) (pv 5)))))))))
      (pss_one (ps_ret (pv 2)))))), ?_⟩
  refine ⟨(by show 0 ≤ sizeLine; decide), fun p hp => ?_⟩
  have s1 := Same.new hp (.lst [])
  refine ⟨_, rfl, b, rfl, ⟨_, s1.seq hB⟩, ?_⟩
  refine for_enum (xs := ts.map V.int) (fun i σ H' => ∃ (ds : List Int) (l : Int) (v4 v5 : Option V), σ = [some (.ref a), some (.ref b), some (.ref p), some (.int l), v4, v5] ∧ Same H H' ∧ H' p = some (.lst (ds.map V.int)) ∧ Paired Below ds (ts.take i))
    ⟨[], _, none, none, rfl, s1, upd_same, by rw [List.take_zero]; exact .nil⟩ (fun i σ H' _ ⟨_, _, _, _, _, sm, _⟩ => sm.seq hB) ?_ ?_
  · rintro i x T0 σ H' hx hT0 ⟨ds, l, v4, v5, rfl, sm, hP, hpr⟩
    obtain ⟨t, ht, rfl⟩ := of_map hx
    have hi := (List.getElem?_eq_some_iff.mp ht).1
    have ht0 := hT.pos t (List.mem_of_getElem? ht)
    have ht1 := hT.low t (List.mem_of_getElem? ht)
    have sT := Same.new hT0 (.tup [.int (i : Nat), .int t])
    have sm' := sm.trans sT
    have hil := hT.len
    have hdl : ds.length ≤ i := by rw [Paired.length hpr, List.length_take]; omega
    refine ⟨T0, _, rfl, SqT.of upd_same, rfl, _, _, rfl, _, _, rfl, rfl, ?_⟩
    refine ⟨fun σ H2 => ∃ l' : Int, σ = [some (.ref a), some (.ref b), some (.ref p), some (.int l'), some (.int (i : Nat)), some (.int t)] ∧ H2 = upd H' T0 (.tup [.int (i : Nat), .int t]), ?_, ?_⟩
    · refine ⟨_, rfl, _, _, rfl, rfl, (by show (0 : Int) < 60; decide), rfl, _, rfl, ?_⟩
      refine iteD (fun _ => ?_) (fun _ => ?_)
      · refine ⟨_, rfl, _, rfl, _, _, rfl, rfl, div64 (by decide) (by decide), _, _, rfl, rfl, a, ns, _, rfl, sm'.seq hA, ?_, ?_⟩
        · have : 0 ≤ (i : Int) / 60 := Int.ediv_nonneg (by omega) (by decide)
          show 0 ≤ 1 + (i : Int) / 60
          omega
        · exact ⟨_, rfl, rfl⟩
      · exact ⟨_, rfl, rfl⟩
    rintro σ H2 ⟨l', rfl, rfl⟩
    have add : ∀ (d l2 : Int), 0 ≤ d ∧ d < t → ∃ (ds' : List Int) (l3 : Int) (v4 v5 : Option V), [some (V.ref a), some (.ref b), some (.ref p), some (.int l2), some (.int (i : Nat)), some (.int t)] = [some (.ref a), some (.ref b), some (.ref p), some (.int l3), v4, v5] ∧
        Same H (upd (upd H' T0 (.tup [.int (i : Nat), .int t])) p (.lst (ds.map V.int ++ [.int d]))) ∧ upd (upd H' T0 (.tup [.int (i : Nat), .int t])) p (.lst (ds.map V.int ++ [.int d])) p = some (.lst (ds'.map V.int)) ∧ Paired Below ds' (ts.take (i + 1)) := fun d l2 h => by
      refine ⟨ds ++ [d], l2, _, _, rfl, sm'.upd_old hp, ?_, ?_⟩
      · rw [upd_same, List.map_append]; rfl
      · rw [take_snoc ht]; exact paired_snoc hpr h
    have hsz : (ds.map V.int).length < sizeLine := by rw [List.length_map]; exact small9 (by omega)
    have hP' : upd H' T0 (.tup [.int (i : Nat), .int t]) p = some (.lst (ds.map V.int)) := sT _ _ hP
    have mo : ∀ z : Int, 0 ≤ z % t ∧ z % t < t := fun z => ⟨Int.emod_nonneg _ (by omega), Int.emod_lt_of_pos _ ht0⟩
    refine ⟨_, rfl, a, ns, 0, rfl, sm'.seq hA, (by decide), _, _, rfl, rfl, (by show (0 : Int) < 2; decide), rfl, _, rfl, ?_⟩
    refine iteD (fun _ => ?_) (fun _ => ?_)
    · refine ⟨_, rfl, .inl ⟨rfl, _, SqL.of hP'⟩, _, rfl, _, rfl, a, ns, _, rfl, sm'.seq hA, by omega, by omega, fun z hz => ?_⟩
      refine ⟨_, rfl, _, _, rfl, rfl, ht0, p, _, _, rfl, rfl, hP', hsz, ?_⟩
      exact add _ _ (mo _)
    · refine ⟨_, rfl, rfl, _, rfl, ?_⟩
      refine iteD (fun _ => ?_) (fun _ => ?_)
      · refine ⟨_, rfl, .inl ⟨rfl, _, SqL.of hP'⟩, _, rfl, _, rfl, a, ns, _, rfl, sm'.seq hA, by omega, by omega, fun z hz => ?_⟩
        refine ⟨_, rfl, _, _, rfl, rfl, ht0, p, _, _, rfl, rfl, hP', hsz, ?_⟩
        exact add _ _ (mo _)
      · refine ⟨_, rfl, .inl ⟨rfl, _, SqL.of hP'⟩, _, rfl, _, rfl, _, _, rfl, rfl, ht0, p, _, _, rfl, rfl, hP', hsz, ?_⟩
        refine ⟨_, rfl, _, rfl, _, _, rfl, rfl, div64 ht0 ht1, ?_⟩
        exact add _ _ (mo _)
  · rintro σ H' ⟨ds, l, v4, v5, rfl, sm, hP, hpr⟩
    rw [List.length_map, List.take_length] at hpr
    exact ⟨_, rfl, q p H' ds sm hp hP hpr⟩
end
end Mw

namespace Mw
open PySem L2
section
variable {P : Program} {w : World} {K : PySem.W.Frag} {mg : Str → Option Value} {base : Heap} {f : Addr} {fd : FuncData} {I : HandI} {cls : Nat → Addr} {ks : List Nat} {np ns tm xp : Addr}
theorem sc__law_points : FnScope ["_law_drawn_here", "_law_many", "_law_reach", "_law_rows", "_law_points_here", "_law_k"] ["_law_drawn_here", "_law_many", "_law_reach", "_law_rows"] (defScope (top 29)) := ⟨rfl, rfl, rfl, by decide +kernel, rfl, by decide +kernel, by decide +kernel⟩
theorem ok__law_points (F : Fun K "_law_points" "_law_points" (top 29) f fd) (T : Txt BN mg) : FnOk P w K mg base CX0 1 f fd ["_law_drawn_here", "_law_many", "_law_reach", "_law_rows"] (spPoints K) := by
  refine F.ok sc__law_points (fun vs H Q E h => ?_) (fun cdv A outer s H vs Q E hr h => ?_)
  · obtain ⟨a, ds, m, g, n, rfl, _⟩ := h
    rfl
  obtain ⟨a, ds, m, g, n, rfl, hA, hm0, hm1, hn0, hn1, hnm, hd, q⟩ := h
  refine ⟨_, (pss_cons (ps_set (i := 4) sc__law_points.nd rfl (Or.inl rfl) (pe_lst pa_nil))
      (pss_cons (ps_for PassesOwn.never rfl (pi_range1 rfl (T.nb "range" (by decide)) (pa_cons (pv 3) pa_nil)) (pg_name (i := 5) sc__law_points.nd rfl (Or.inl rfl)) (pss_one (ps_expr (pe_bm PySem.F.plainAttrs_list PySem.F.slot_list_append PySem.F.type_list_append mt_append (pv 4) (pa_cons (pe_callTy (call_tupleK (K := K) rfl) rfl (T.nb "tuple" (by decide)) (by decide +kernel) (pa_cons (pe_comp (sc := defScope (top 29)) (N := ["_law_drawn_here", "_law_many", "_law_reach", "_law_rows", "_law_points_here", "_law_k"]) (NB := ["_law_number", "_law_reach"]) (fr := [none, some 2]) rfl (by decide +kernel) (pi_list (pe_slice (sl_listK (K := K) rfl) (pv 0) (po_some (pe_op op_mulB (pv 5) (pv 1))) (po_some (pe_op op_mulB (pe_op op_add (pv 5) pe_int) (pv 1))))) (fun _ _ _ _ => (pg_name (i := 0) (show (["_law_number", "_law_reach"] : List Str).Nodup by decide +kernel) rfl (Or.inl rfl))) (fun _ _ _ _ => .nil) (fun _ _ _ _ => (pe_op op_sub (pv 0) (pv 1)))) pa_nil)) pa_nil)))))
      (pss_one (ps_ret (pv 4))))), ?_⟩
  refine ⟨(by show 0 ≤ sizeLine; decide), fun p hp => ?_⟩
  have s1 := Same.new hp (.lst [])
  refine ⟨_, rfl, n, rfl, by omega, by omega, ?_⟩
  refine for_range (lo := 0) (n := n.toNat) (fun i σ H' => ∃ (as : List Addr) (ps : List (List Int)) (v5 : Option V), σ = [some (.ref a), some (.int m), some (.int g), some (.int n), some (.ref p), v5] ∧ Same H H' ∧ H' p = some (.lst (as.map V.ref)) ∧ PtsAt K H' as ps ∧ ps.length = i ∧
      (∀ x ∈ ps, x.length = m.toNat) ∧ (∀ y ∈ ps, ∀ x ∈ y, -g ≤ x ∧ x ≤ g))
    ⟨[], [], none, rfl, s1, upd_same, .nil, rfl, fun _ h => absurd h (by simp), fun _ h => absurd h (by simp)⟩ ?_ ?_
  · rintro i σ H' hi ⟨as, ps, v5, rfl, sm, hP, hPs, hpn, hc1, hc2⟩
    have hiN : (0 + (i : Int) + 1) ≤ n := by omega
    have hle : (0 + (i : Int) + 1) * m ≤ (ds.length : Int) := Int.le_trans (Int.mul_le_mul_of_nonneg_right hiN (by omega)) hnm
    have hexp : (0 + (i : Int) + 1) * m = (0 + (i : Int)) * m + m := by rw [Int.add_mul, Int.one_mul]
    have hlo : 0 ≤ (0 + (i : Int)) * m := Int.mul_nonneg (by omega) (by omega)
    have hal : as.length = ps.length := Paired.length hPs
    refine ⟨_, rfl, .inl ⟨rfl, _, SqL.of hP⟩, ?_⟩
    refine ⟨_, rfl, _, rfl, _, rfl, _, _, rfl, rfl, mul64 (by omega) (by omega) (by omega) (by omega), _, rfl, _, rfl, _, _, rfl, rfl, _, rfl, _, _, rfl, rfl, mul64 (by show _ < 0 + (i : Int) + 1; omega) (by show 0 + (i : Int) + 1 < _; omega) (by omega) (by omega), _, rfl, a, _, rfl, sm.seq hA, fun ps1 hps => ?_⟩
    rw [cut_map, cutI_in ds hlo (by omega) hle]
    have hcut : ((ds.drop ((0 + (i : Int)) * m).toNat).take ((0 + (i : Int) + 1) * m - (0 + (i : Int)) * m).toNat).length = m.toNat := by
      rw [List.length_take, List.length_drop]; omega
    have hmem : ∀ (j : Nat) x, ((ds.drop ((0 + (i : Int)) * m).toNat).take ((0 + (i : Int) + 1) * m - (0 + (i : Int)) * m).toNat)[j]? = some x → 0 ≤ x ∧ x ≤ 2 * g := fun j x hx => by
      have hj := (List.getElem?_eq_some_iff.mp hx).1
      rw [hcut] at hj
      rw [List.getElem?_take_of_lt (by omega), List.getElem?_drop] at hx
      refine hd _ x ?_ hx
      have h9 : (0 + (i : Int) + 1) * m ≤ n * m := Int.mul_le_mul_of_nonneg_right hiN (by omega)
      omega
    generalize ((ds.drop ((0 + (i : Int)) * m).toNat).take ((0 + (i : Int) + 1) * m - (0 + (i : Int)) * m).toNat) = some1 at *
    have s5 := Same.new hps (.lst (some1.map V.int))
    refine ⟨ps1, rfl, ⟨_, SqL.of upd_same⟩, fun D hDn => ?_⟩
    refine comp_list (xs := some1.map V.int) (fun j zs H3 => ∃ zi : List Int, zs = zi.map V.int ∧ zi.length = j ∧ (∀ x ∈ zi, -g ≤ x ∧ x ≤ g) ∧ Same (upd H' ps1 (.lst (some1.map V.int))) H3 ∧ H3 D = some (.lst zs)) ⟨[], rfl, rfl, fun _ h => absurd h (by simp), Same.new hDn _, upd_same⟩
      (fun j zs H3 hj ⟨zi, e1, e2, _, _, e3⟩ => ⟨e3, by rw [e1, List.length_map]; omega⟩) (fun j zs H3 _ ⟨_, _, _, _, e2, _⟩ => e2.seq (SqL.of upd_same)) (by rw [List.length_map, hcut]; exact Nat.le_of_lt (small9 (by omega))) ?_ ?_
    · rintro j x zs H3 hx ⟨zi, rfl, e2, e4, e5, e6⟩
      obtain ⟨d, hd1, rfl⟩ := of_map hx
      have hd2 := hmem j d hd1
      refine ⟨⟨rfl, ?_⟩, ?_⟩
      · intro k v ek
        match k, ek with
        | 1, ek => exact ek
        | 0, ek => simp [carry] at ek
        | k + 2, ek => simp [carry] at ek
      refine tYes_then ?_
      refine ⟨_, rfl, _, rfl, _, _, rfl, rfl, ?_⟩
      refine ⟨e6, zi ++ [d - g], by rw [List.map_append]; rfl, by rw [List.length_append, e2]; rfl, fun y hy => ?_, e5.upd_old hDn, by rw [upd_same]⟩
      rcases List.mem_append.mp hy with q1 | q1
      · exact e4 y q1
      · rw [List.mem_singleton.mp q1]; omega
    rintro zs H3 ⟨zi, rfl, e2, e4, e5, e6⟩
    rw [List.length_map, hcut] at e2
    refine ⟨D, _, rfl, .inl ⟨SqL.of e6, fun pl hpl => ?_⟩⟩
    have s6 := Same.new hpl (.tup (zi.map V.int))
    have sAll : Same H' (upd H3 pl (.tup (zi.map V.int))) := s5.trans (e5.trans s6)
    refine ⟨p, _, _, rfl, rfl, sAll _ _ hP, by rw [List.length_map, hal]; exact small9 (by omega), ?_⟩
    have hprN : ∀ (b : Addr) (xs : List V), SqT K (upd H3 pl (.tup (zi.map V.int))) b xs → SqT K (upd (upd H3 pl (.tup (zi.map V.int))) p (.lst (as.map V.ref ++ [.ref pl]))) b xs := fun b xs hq => by
      rcases hq with (e | ⟨o, e⟩) | e
      · exact .inl (.inl (by rw [upd_ne (fun z => by rw [z, sAll _ _ hP] at e; cases e)]; exact e))
      · exact .inl (.inr ⟨o, by rw [upd_ne (fun z => by rw [z, sAll _ _ hP] at e; cases e)]; exact e⟩)
      · exact .inr e
    refine ⟨as ++ [pl], ps ++ [zi], _, rfl, (sm.trans sAll).upd_old hp, by rw [upd_same, List.map_append]; rfl, ?_, by rw [List.length_append]; show ps.length + 1 = i + 1; omega, fun r hr1 => ?_, fun r hr1 => ?_⟩
    · refine paired_snoc (Paired.mapP hPs fun b r h1 => hprN _ _ (sAll.seqT h1)) (hprN _ _ (SqT.of upd_same))
    · rcases List.mem_append.mp hr1 with z | z
      · exact hc1 r z
      · rw [List.mem_singleton.mp z]; exact e2
    · rcases List.mem_append.mp hr1 with z | z
      · exact hc2 r z
      · rw [List.mem_singleton.mp z]; exact e4
  · rintro σ H' ⟨as, ps, v5, rfl, sm, hP, hPs, hpn, hc1, hc2⟩
    exact ⟨_, rfl, q p H' as ps sm hp hP hPs hpn hc1 hc2⟩
end
end Mw

namespace Mw
open PySem L2
section
variable {P : Program} {w : World} {K : PySem.W.Frag} {mg : Str → Option Value} {base : Heap} {f : Addr} {fd : FuncData} {I : HandI} {cls : Nat → Addr} {ks : List Nat} {np ns tm xp : Addr}
theorem sc__law_product : FnScope ["_law_weights", "_law_point"] ["_law_weights", "_law_point"] (defScope (top 30)) := ⟨rfl, rfl, rfl, by decide +kernel, rfl, by decide +kernel, by decide +kernel⟩
theorem ok__law_product (F : Fun K "_law_product" "_law_product" (top 30) f fd) (T : Txt BN mg) : FnOk P w K mg base CX0 1 f fd ["_law_weights", "_law_point"] (spLProd K) := by
  refine F.ok sc__law_product (fun vs H Q E h => ?_) (fun cdv A outer s H vs Q E hr h => ?_)
  · obtain ⟨a, b, b1, b2, ws, xs, rfl, _⟩ := h
    rfl
  obtain ⟨a, b, b1, b2, ws, xs, rfl, hA, hB, hl, hlw, hw, hx, q⟩ := h
  refine ⟨_, (pss_one (ps_ret (pe_callB (call_sumI rfl) rfl (T.nb "sum" (by decide)) (by decide +kernel) (pa_cons (pe_comp (sc := defScope (top 30)) (N := ["_law_weights", "_law_point"]) (NB := ["_law_weight", "_law_number"]) (fr := [none, none]) rfl (by decide +kernel) (pi_zip rfl (T.nb "zip" (by decide)) (pa_cons (pv 0) (pa_cons (pe_op op_cat (pe_callTy (call_listK (K := K) rfl) rfl (T.nb "list" (by decide)) (by decide +kernel) (pa_cons (pv 1) pa_nil)) (pe_lst (pa_cons pe_int pa_nil))) pa_nil))) (fun _ _ _ _ => (pg_tupK (K := K) (n := 2) rfl rfl (pgs_cons (pg_name (i := 0) (show (["_law_weight", "_law_number"] : List Str).Nodup by decide +kernel) rfl (Or.inl rfl)) (pgs_cons (pg_name (i := 1) (show (["_law_weight", "_law_number"] : List Str).Nodup by decide +kernel) rfl (Or.inl rfl)) pgs_nil)))) (fun _ _ _ _ => .nil) (fun _ _ _ _ => (pe_op op_mulB (pv 0) (pv 1)))) pa_nil)))), ?_⟩
  refine ⟨_, rfl, _, rfl, b, _, rfl, (SqB.or hB), fun l hl0 => ⟨(by show 1 ≤ sizeLine; decide), fun l1 hl1 => ?_⟩⟩
  have s1 := Same.new hl0 (.lst (xs.map V.int))
  have s2 := Same.new hl1 (.lst [.int 1])
  refine ⟨l, l1, _, _, rfl, rfl, s2 _ _ upd_same, upd_same, by rw [List.length_map]; exact Nat.le_of_lt (small1000 (by show xs.length + 1 ≤ 1000; omega)), fun l2 hl2 => ?_⟩
  have s3 := Same.new hl2 (.lst (xs.map V.int ++ [.int 1]))
  have eL : xs.map V.int ++ [.int 1] = (xs ++ [1]).map V.int := by rw [List.map_append]; rfl
  have s4 := s1.trans (s2.trans s3)
  have hx1 := bits_snoc (n := 1000) (by decide) hx
  refine ⟨b1, false, a, l2, rfl, ⟨_, s4.seqB hA⟩, ⟨_, SqL.of upd_same⟩, fun D hD => ?_⟩
  have hDl : l2 ≠ D := ne_of_none upd_same hD
  rw [eL] at hD s3 s4 ⊢
  refine comp_zip (us := ws.map V.int) (vs := (xs ++ [1]).map V.int) (fun i zs H' => zs = (((List.zipWith (· * ·) ws (xs ++ [1])).take i).map V.int) ∧ Same H H' ∧ H' l2 = some (.lst ((xs ++ [1]).map V.int)) ∧ H' D = some (.lst zs)) ⟨by simp, s4.trans (Same.new hD _), by rw [upd_ne (ne_of_none upd_same hD)]; exact upd_same, upd_same⟩
    (fun i zs H' hi ⟨e1, _, _, e3⟩ => ⟨e3, by rw [e1, List.length_map, List.length_take]; omega⟩) (fun i zs H' _ ⟨_, e2, e4, _⟩ => ⟨e2.seqB hA, SqL.of e4⟩) (by rw [List.length_map]; exact Nat.le_of_lt (small1000 hlw)) ?_ ?_
  · rintro i x y T0 zs H' hx0 hy0 hT0 ⟨e1, e2, e4, e3⟩
    obtain ⟨x1, hx1', rfl⟩ := of_map hx0
    obtain ⟨y1, hy1, rfl⟩ := of_map hy0
    have hTD : D ≠ T0 := ne_of_none e3 hT0
    refine ⟨T0, _, rfl, SqT.of upd_same, rfl, _, _, rfl, _, _, rfl, rfl, wk_none (n := 2) rfl, ?_⟩
    refine tYes_then ?_
    refine ⟨_, rfl, _, rfl, _, _, rfl, rfl, ⟨1000, by decide, hw x1 (List.mem_of_getElem? hx1'), hx1 y1 (List.mem_of_getElem? hy1)⟩, by rw [upd_ne hTD]; exact e3, ?_, (e2.trans (Same.new hT0 _)).upd_old (s4.free hD), ?_, upd_same⟩
    · rw [take_snoc (zip_get hx1' hy1), List.map_append, e1]; rfl
    · rw [upd_ne hDl, upd_ne (ne_of_none e4 hT0)]; exact e4
  · rintro zs H' ⟨e1, e2, e4, e3⟩
    refine ⟨D, List.zipWith (· * ·) ws (xs ++ [1]), rfl, .inl (.inl ?_), q H' e2⟩
    rw [e3, e1, List.take_of_length_le (by rw [List.length_zipWith, List.length_map, List.length_map]; exact Nat.le_refl _)]
end
end Mw

namespace Mw
open PySem L2
section
variable {P : Program} {w : World} {K : PySem.W.Frag} {mg : Str → Option Value} {base : Heap} {f : Addr} {fd : FuncData} {I : HandI} {cls : Nat → Addr} {ks : List Nat} {np ns tm xp : Addr}
theorem sc__law_parted : FnScope ["_law_script", "_law_size", "_law_reach", "_law_many", "_law_order", "_law_tops", "_law_drawn_here", "_law_weights", "_law_points_here", "_law_rows"] ["_law_script", "_law_size", "_law_reach", "_law_many", "_law_order"] (defScope (top 31)) := ⟨rfl, rfl, rfl, by decide +kernel, rfl, by decide +kernel, by decide +kernel⟩
theorem ok__law_parted (F : Fun K "_law_parted" "_law_parted" (top 31) f fd) (T : Txt BN mg) (c__law_drawn : Cal P w K mg base 3 "_law_drawn" ["_law_script", "_law_tops"] (spDrawn K)) (c__law_points : Cal P w K mg base 1 "_law_points" ["_law_drawn_here", "_law_many", "_law_reach", "_law_rows"] (spPoints K)) (c__law_product : Cal P w K mg base 1 "_law_product" ["_law_weights", "_law_point"] (spLProd K)) : FnOk P w K mg base CX0 4 f fd ["_law_script", "_law_size", "_law_reach", "_law_many", "_law_order"] (spParted18 K) := by
  refine F.ok sc__law_parted (fun vs H Q E h => ?_) (fun cdv A outer s H vs Q E hr h => ?_)
  · obtain ⟨a, ns, n, m, od, g, rfl, _⟩ := h
    rfl
  obtain ⟨a, ns, n, m, od, g, rfl, hS, hn0, hn1, hm0, hm1, hg0, hg1, hod, q⟩ := h
  refine ⟨_, (pss_cons (ps_set (i := 5) sc__law_parted.nd rfl (Or.inl rfl) (pe_op op_cat (pe_op op_cat (pe_op op_cat (pe_comp (sc := defScope (top 31)) (N := ["_law_script", "_law_size", "_law_reach", "_law_many", "_law_order", "_law_tops", "_law_drawn_here", "_law_weights", "_law_points_here", "_law_rows"]) (NB := ["_law_k"]) (fr := [none]) rfl (by decide +kernel) (pi_range1 rfl (T.nb "range" (by decide)) (pa_cons (pv 3) pa_nil)) (fun _ _ _ _ => (pg_name (i := 0) (show (["_law_k"] : List Str).Nodup by decide +kernel) rfl (Or.inl rfl))) (fun _ _ _ _ => .nil) (fun _ _ _ _ => pe_int)) (pe_lst (pa_cons pe_int pa_nil))) (pe_comp (sc := defScope (top 31)) (N := ["_law_script", "_law_size", "_law_reach", "_law_many", "_law_order", "_law_tops", "_law_drawn_here", "_law_weights", "_law_points_here", "_law_rows"]) (NB := ["_law_k", "_law_reach"]) (fr := [none, some 2]) rfl (by decide +kernel) (pi_range1 rfl (T.nb "range" (by decide)) (pa_cons (pe_op op_mulB (pv 1) (pv 3)) pa_nil)) (fun _ _ _ _ => (pg_name (i := 0) (show (["_law_k", "_law_reach"] : List Str).Nodup by decide +kernel) rfl (Or.inl rfl))) (fun _ _ _ _ => .nil) (fun _ _ _ _ => (pe_op op_add (pe_op op_mulB pe_int (pv 1)) pe_int)))) (pe_comp (sc := defScope (top 31)) (N := ["_law_script", "_law_size", "_law_reach", "_law_many", "_law_order", "_law_tops", "_law_drawn_here", "_law_weights", "_law_points_here", "_law_rows"]) (NB := ["_law_k", "_law_size"]) (fr := [none, some 1]) rfl (by decide +kernel) (pi_range1 rfl (T.nb "range" (by decide)) (pa_cons (pv 4) pa_nil)) (fun _ _ _ _ => (pg_name (i := 0) (show (["_law_k", "_law_size"] : List Str).Nodup by decide +kernel) rfl (Or.inl rfl))) (fun _ _ _ _ => .nil) (fun _ _ _ _ => (pv 1)))))
      (pss_cons (ps_set (i := 6) sc__law_parted.nd rfl (Or.inl rfl) (pe_cal c__law_drawn (hr.mono (by decide)) rfl (pa_cons (pv 0) (pa_cons (pv 5) pa_nil))))
      (pss_cons (ps_set (i := 7) sc__law_parted.nd rfl (Or.inr rfl) (pe_op op_cat (pe_comp (sc := defScope (top 31)) (N := ["_law_script", "_law_size", "_law_reach", "_law_many", "_law_order", "_law_tops", "_law_drawn_here", "_law_weights", "_law_points_here", "_law_rows"]) (NB := ["_law_number"]) (fr := [none]) rfl (by decide +kernel) (pi_list (pe_slice (sl_listK (K := K) rfl) (pv 6) po_none (po_some (pv 3)))) (fun _ _ _ _ => (pg_name (i := 0) (show (["_law_number"] : List Str).Nodup by decide +kernel) rfl (Or.inl rfl))) (fun _ _ _ _ => .nil) (fun _ _ _ _ => (pe_op op_mulB pe_int (pe_op op_sub (pv 0) pe_int)))) (pe_lst (pa_cons (pe_op op_sub (pe_op op_mulB pe_int (pe_ix (ix_listK (K := K) rfl) (pv 6) (pv 3) (fun _ _ => rfl))) pe_int) pa_nil))))
      (pss_cons (ps_set (i := 8) sc__law_parted.nd rfl (Or.inl rfl) (pe_cal c__law_points (hr.mono (by decide)) rfl (pa_cons (pe_slice (sl_listK (K := K) rfl) (pv 6) (po_some (pe_op op_add (pv 3) pe_int)) po_none) (pa_cons (pv 3) (pa_cons (pv 2) (pa_cons (pv 1) pa_nil))))))
      (pss_cons (ps_comp (i := 9) sc__law_parted.nd rfl rfl (sc := defScope (top 31)) (N := ["_law_script", "_law_size", "_law_reach", "_law_many", "_law_order", "_law_tops", "_law_drawn_here", "_law_weights", "_law_points_here", "_law_rows"]) (NB := ["_law_point", "_law_weights"]) (fr := [none, some 7]) rfl (by decide +kernel) (pi_list (pv 8)) (fun _ _ _ _ => (pg_name (i := 0) (show (["_law_point", "_law_weights"] : List Str).Nodup by decide +kernel) rfl (Or.inl rfl))) (fun _ _ _ _ => .nil) (fun _ _ _ _ => (pe_tup (pa_cons (pv 0) (pa_cons (pe_callTy call_int1 rfl (T.nb "int" (by decide)) (by decide +kernel) (pa_cons (pe_cmpR op_gt (pe_cal c__law_product (hr.mono (by decide)) rfl (pa_cons (pv 1) (pa_cons (pv 0) pa_nil))) pe_int (nomark _)) pa_nil)) pa_nil)))))
      (pss_one (ps_ret (pe_lst (pa_cons (pe_callTy (call_tupleK (K := K) rfl) rfl (T.nb "tuple" (by decide)) (by decide +kernel) (pa_cons (pv 7) pa_nil)) (pa_cons (pv 9) (pa_cons (pe_slice (sl_listK (K := K) rfl) (pv 6) (po_some (pe_op op_sub (pe_callB (call_lenK (K := K) rfl) rfl (T.nb "len" (by decide)) (by decide +kernel) (pa_cons (pv 6) pa_nil)) (pv 4))) po_none) pa_nil))))))))))), ?_⟩
  have hnm : n * m ≤ 40 := Nat.le_trans (Nat.mul_le_mul hn1 hm1) (by decide)
  have hnmI : (n : Int) * m = ((n * m : Nat) : Int) := by rw [Int.natCast_mul]
  refine ⟨_, rfl, (m : Int), rfl, by omega, by omega, fun D1 hD1 => ?_⟩
  refine comp_range_rel (n := m) (fun _ _ y => y = .int 7) (fun _ _ _ _ _ h => h) (Nat.le_of_lt (small1000 (by omega))) hD1 (fun i H1 R hi1 s1 _ hq => ⟨wk_none (n := 1) rfl, ?_⟩) ?_
  · exact hq _ H1 (Same.refl _) rfl
  rintro ys H1 s1 hL1 hy1 hy2
  have ey : ys = List.replicate m (.int 7) := List.eq_replicate_iff.mpr ⟨hy1, fun y hy => by obtain ⟨j, hj⟩ := List.getElem?_of_mem hy; exact hy2 j y hj⟩
  subst ey
  refine ⟨(by show 1 ≤ sizeLine; decide), fun p1 hp1 => ?_⟩
  have s2 := Same.new hp1 (.lst [.int 8])
  refine ⟨D1, p1, _, _, rfl, rfl, s2 _ _ hL1, upd_same, by rw [List.length_replicate]; exact Nat.le_of_lt (small1000 (by show m + 1 ≤ 1000; omega)), fun p2 hp2 => ?_⟩
  have s3 := Same.new hp2 (.lst (List.replicate m (V.int 7) ++ [.int 8]))
  refine ⟨_, rfl, _, rfl, _, _, rfl, rfl, mul64 (by omega) (by omega) (by omega) (by omega), (n : Int) * m, rfl, by omega, by omega, fun D2 hD2 => ?_⟩
  refine comp_range_rel (n := ((n : Int) * m).toNat) (fun _ _ y => y = .int (2 * g + 1)) (fun _ _ _ _ _ h => h) (Nat.le_of_lt (small1000 (by omega))) hD2 (fun i H1 R hi1 s1 _ hq => ⟨wk1 rfl, ?_⟩) ?_
  · exact ⟨_, rfl, _, _, rfl, rfl, mul64 (by decide) (by decide) (by omega) (by omega), _, _, rfl, rfl, hq _ H1 (Same.refl _) rfl⟩
  rintro ys H4 s4 hL2 hy1 hy2
  have ey : ys = List.replicate (n * m) (.int (2 * g + 1)) := List.eq_replicate_iff.mpr ⟨by rw [hy1, hnmI, Int.toNat_natCast], fun y hy => by obtain ⟨j, hj⟩ := List.getElem?_of_mem hy; exact hy2 j y hj⟩
  subst ey
  refine ⟨p2, D2, _, _, rfl, rfl, s4 _ _ upd_same, hL2, by rw [List.length_append, List.length_replicate, List.length_replicate]; exact Nat.le_of_lt (small1000 (by show m + 1 + n * m ≤ 1000; omega)), fun p3 hp3 => ?_⟩
  have s5 := Same.new hp3 (.lst (List.replicate m (V.int 7) ++ [.int 8] ++ List.replicate (n * m) (.int (2 * g + 1))))
  have s05 := s1.trans (s2.trans (s3.trans (s4.trans s5)))
  refine ⟨_, rfl, (od : Int), rfl, by omega, by omega, fun D3 hD3 => ?_⟩
  refine comp_range_rel (n := od) (fun _ _ y => y = .int n) (fun _ _ _ _ _ h => h) (Nat.le_of_lt (small1000 (by omega))) hD3 (fun i H1 R hi1 s1 _ hq => ⟨wk1 rfl, ?_⟩) ?_
  · exact ⟨_, rfl, hq _ H1 (Same.refl _) rfl⟩
  rintro ys H6 s6 hL3 hy1 hy2
  have ey : ys = List.replicate od (.int n) := List.eq_replicate_iff.mpr ⟨hy1, fun y hy => by obtain ⟨j, hj⟩ := List.getElem?_of_mem hy; exact hy2 j y hj⟩
  subst ey
  refine ⟨p3, D3, _, _, rfl, rfl, s6 _ _ upd_same, hL3, by rw [List.length_append, List.length_append, List.length_replicate, List.length_replicate, List.length_replicate]; exact Nat.le_of_lt (small1000 (by show m + 1 + n * m + od ≤ 1000; omega)), fun p4 hp4 => ?_⟩
  have eT : List.replicate m (V.int 7) ++ [V.int 8] ++ List.replicate (n * m) (V.int (2 * g + 1)) ++ List.replicate od (V.int n) = ((List.replicate m 7 ++ [8]) ++ (List.replicate (n * m) (2 * g + 1) ++ List.replicate od (n : Int))).map V.int := by
    simp [List.map_append, List.map_replicate, List.append_assoc]
  have s7 := Same.new hp4 (.lst (List.replicate m (V.int 7) ++ [V.int 8] ++ List.replicate (n * m) (V.int (2 * g + 1)) ++ List.replicate od (V.int n)))
  have s07 := s05.trans (s6.trans s7)
  have hmem : ∀ t ∈ ((List.replicate m 7 ++ [8]) ++ (List.replicate (n * m) (2 * g + 1) ++ List.replicate od (n : Int))), 0 < t ∧ t < 18446744073709551616 := fun t ht => by
    simp only [List.mem_append, List.mem_replicate, List.mem_singleton] at ht
    omega
  refine ⟨_, rfl, _, rfl, a, p4, ns, _, rfl, s07.seq hS, SqL.of (by rw [upd_same, eT]), ⟨by simp; omega, fun t ht => (hmem t ht).1, fun t ht => (hmem t ht).2⟩, fun r H8 ds s8 hr0 hR hpd => ?_⟩
  have s08 := s07.trans s8
  obtain ⟨hpA, hpB⟩ := paired_split hpd
  have hlA : (List.replicate m (7 : Int) ++ [8]).length = m + 1 := by simp
  rw [hlA] at hpA hpB
  obtain ⟨hpA1, hpA2⟩ := paired_split hpA
  obtain ⟨hpB1, hpB2⟩ := paired_split hpB
  rw [List.length_replicate] at hpA1 hpA2 hpB1 hpB2
  have hb1 := below_rep hpA1
  have hb3 := below_rep hpB1
  have hb4 := below_rep hpB2
  have hdl : ds.length = m + 1 + (n * m + od) := by rw [Paired.length hpd]; simp; omega
  -- the weights
  refine ⟨_, rfl, _, rfl, (m : Int), rfl, r, _, rfl, SqL.of hR, fun p5 hp5 => ?_⟩
  rw [cut_map, cutI_to ds (by omega) (by omega), Int.toNat_natCast]
  have htk : (ds.take m).length = m := by rw [List.length_take]; omega
  have hA1 : ∀ d ∈ ds.take m, 0 ≤ d ∧ d < 7 := by
    have e : (ds.take (m + 1)).take m = ds.take m := by rw [List.take_take]; congr 1; omega
    rw [e] at hb1
    exact hb1.2
  generalize hus : ds.take m = us at *
  have s9 := Same.new hp5 (.lst (us.map V.int))
  refine ⟨p5, rfl, ⟨_, SqL.of upd_same⟩, fun D4 hD4 => ?_⟩
  refine comp_list_rel (xs := us.map V.int) (fun _ i y => ∀ d, us[i]? = some d → y = .int (2 * (d - 3))) (fun _ _ _ _ _ h => h) (SqL.of upd_same) (by rw [List.length_map]; exact Nat.le_of_lt (small1000 (by omega))) hD4 ?_ ?_
  · rintro i x H1 R hx s1' _ hq
    obtain ⟨d, hd, rfl⟩ := of_map hx
    have hdb := hA1 d (List.mem_of_getElem? hd)
    refine ⟨wk_none (n := 1) rfl, _, rfl, _, _, rfl, rfl, _, _, rfl, rfl, mul64 (by decide) (by decide) (by show _ < d - 3; omega) (by show d - 3 < _; omega), hq _ H1 (Same.refl _) fun d2 h2 => ?_⟩
    rw [hd] at h2
    cases h2
    rfl
  rintro ys H9 s10 hL4 hy1 hy2
  rw [List.length_map] at hy1
  have ey : ys = (us.map fun d => 2 * (d - 3)).map V.int := by
    rw [List.map_map]
    exact ys_map hy1 fun j y r h1 h2 => hy2 j y h1 r h2
  subst ey
  obtain ⟨d0, hd0, hat0⟩ : ∃ d0, d0 ∈ ds ∧ atI (ds.map V.int) (m : Int) = some (.int d0) ∧ 0 ≤ d0 ∧ d0 < 8 := by
    have hlt : m < ds.length := by omega
    refine ⟨ds[m], List.getElem_mem hlt, atI_nat (by rw [List.getElem?_map, List.getElem?_eq_getElem hlt]; rfl), ?_⟩
    have h2 : (ds.take (m + 1)).drop m = [ds[m]] := by
      rw [List.drop_take]
      have : m + 1 - m = 1 := by omega
      rw [this, List.take_one, List.head?_drop, List.getElem?_eq_getElem hlt]; rfl
    rw [h2] at hpA2
    cases hpA2 with
    | cons r t => exact r
  have s810 := s9.trans s10
  refine ⟨_, rfl, _, rfl, r, _, _, _, rfl, rfl, SqL.of (s810 _ _ hR), hat0.1, _, _, rfl, rfl, mul64 (by decide) (by decide) (by omega) (by omega), _, _, rfl, rfl, (by show 1 ≤ sizeLine; decide), fun p6 hp6 => ?_⟩
  have s11 := Same.new hp6 (.lst [.int (2 * d0 - 7)])
  refine ⟨D4, p6, _, _, rfl, rfl, s11 _ _ hL4, upd_same, by rw [List.length_map, List.length_map]; exact Nat.le_of_lt (small1000 (by show us.length + 1 ≤ 1000; omega)), fun p7 hp7 => ?_⟩
  have eW : (us.map fun d => 2 * (d - 3)).map V.int ++ [V.int (2 * d0 - 7)] = ((us.map fun d => 2 * (d - 3)) ++ [2 * d0 - 7]).map V.int := by
    rw [List.map_append]; rfl
  rw [eW]
  have hwl : ((us.map fun d => 2 * (d - 3)) ++ [2 * d0 - 7]).length = m + 1 := by simp; omega
  have hwb : ∀ w ∈ ((us.map fun d => 2 * (d - 3)) ++ [2 * d0 - 7]), -10 ≤ w ∧ w ≤ 10 := fun w hw => by
    rcases List.mem_append.mp hw with z | z
    · obtain ⟨d, hd, rfl⟩ := List.mem_map.mp z
      have := hA1 d hd
      omega
    · rw [List.mem_singleton.mp z]; omega
  have hodd : ∀ xs : List Int, xs.length = m → dot ((us.map fun d => 2 * (d - 3)) ++ [2 * d0 - 7]) (xs ++ [1]) ≠ 0 := fun xs hx => dot_odd (by rw [List.length_map]; omega) (fun u hu => by obtain ⟨d, _, rfl⟩ := List.mem_map.mp hu; omega) (by omega)
  generalize ((us.map fun d => 2 * (d - 3)) ++ [2 * d0 - 7]) = ws at *
  have s12 := Same.new hp7 (.lst (ws.map V.int))
  have s8c := s810.trans (s11.trans s12)
  -- the points
  refine ⟨_, rfl, _, rfl, _, _, rfl, rfl, (m : Int) + 1, rfl, r, _, rfl, SqL.of (s8c _ _ hR), fun p8 hp8 => ?_⟩
  rw [cut_map, cutI_from ds (by omega) (by omega)]
  have etn : ((m : Int) + 1).toNat = m + 1 := by omega
  rw [etn]
  have s13 := Same.new hp8 (.lst ((ds.drop (m + 1)).map V.int))
  refine ⟨_, rfl, _, rfl, _, rfl, p8, ds.drop (m + 1), m, g, n, rfl, SqL.of upd_same, by omega, by omega, by omega, by omega, by rw [List.length_drop, hnmI]; omega, ?_, fun r2 H14 as ps s14 hr2 hR2 hPs hpl hc1 hc2 => ?_⟩
  · intro j d hj hd
    have hj2 : j < n * m := by rw [hnmI] at hj; omega
    have := hb3.2 d (List.mem_of_getElem? (i := j) (by rw [List.getElem?_take_of_lt hj2]; exact hd))
    omega
  have sc14 := s12.trans (s13.trans s14)
  have hW14 : H14 p7 = some (.lst (ws.map V.int)) := (s13.trans s14) _ _ upd_same
  have hal : as.length = ps.length := Paired.length hPs
  -- the rows
  refine ⟨_, rfl, r2, rfl, ⟨_, SqL.of hR2⟩, fun D5 hD5 => ?_⟩
  refine comp_list_rel (xs := as.map V.ref) (fun H' i y => ∃ t, y = .ref t ∧ t ≠ D5 ∧ ∃ pa xs, as[i]? = some pa ∧ ps[i]? = some xs ∧ H' t = some (.tup [.ref pa, .int (if 0 < dot ws (xs ++ [1]) then 1 else 0)])) ?_ (SqL.of hR2) (by rw [List.length_map]; exact Nat.le_of_lt (small1000 (by omega))) hD5 ?_ ?_
  · rintro H1 H2 i y off ⟨t, e, ne, pa, xs, e1, e2, e3⟩
    exact ⟨t, e, ne, pa, xs, e1, e2, off _ _ ne e3⟩
  · rintro i x H15 R hx s15 hDn hq
    obtain ⟨pa, hpa, rfl⟩ := of_map hx
    obtain ⟨xs, hxs, hPx⟩ := paired_get hPs hpa
    have hxm := List.mem_of_getElem? hxs
    have hxl := hc1 xs hxm
    refine ⟨wk1 rfl, _, rfl, _, rfl, _, rfl, p7, pa, false, true, ws, xs, rfl, SqL.of (s15 _ _ hW14), s15.seqT hPx, by omega, by omega, fun w hw => ?_, fun x hx => ?_, fun H16 s16 => ?_⟩
    · have := hwb w hw
      refine Bits.mono (n := 40) ?_ (by decide)
      show w.natAbs < 2 ^ 40
      have e2 : (2 : Nat) ^ 40 = 1099511627776 := by decide
      omega
    · have := hc2 xs hxm x hx
      exact bits_low (by omega) (by omega) (by decide)
    refine ⟨_, _, rfl, rfl, .inr ⟨_, rfl, (by show 2 ≤ sizeLine; decide), fun pt hpt => ?_⟩⟩
    refine hq _ _ (s16.trans (Same.new hpt _)) ⟨pt, rfl, ?_, pa, xs, hpa, hxs, ?_⟩
    · intro z
      cases e : H15 D5 with
      | none => exact hDn e
      | some o => rw [z, s16 _ _ e] at hpt; cases hpt
    · rw [upd_same]
      by_cases z : 0 < dot ws (xs ++ [1])
      · rw [if_pos z]; simp [z]
      · rw [if_neg z]; simp [z]
  rintro ys H17 s17 hL5 hy1 hy2
  rw [List.length_map] at hy1
  have hS8 : Same H8 H17 := s810.trans (s11.trans (sc14.trans s17))
  have hS0 : Same H H17 := s08.trans hS8
  have hPs17 := hPs.same s17
  obtain ⟨ts, ets, hRows⟩ := rows_of (K := K) (H := H17) (ys := ys) (rs := ps.map fun xs => (xs, if 0 < dot ws (xs ++ [1]) then (1 : Int) else 0)) (by rw [List.length_map]; omega) (fun j y r h1 h2 => by
    obtain ⟨t, e, _, pa, xs, e1, e2, e3⟩ := hy2 j y h1
    rw [List.getElem?_map, e2] at h2
    cases h2
    obtain ⟨xs2, h3, h4⟩ := paired_get hPs17 e1
    rw [e2] at h3
    cases h3
    exact ⟨t, pa, e, SqT.of e3, h4⟩)
  subst ets
  have hR17 : H17 r = some (.lst (ds.map V.int)) := hS8 _ _ hR
  have hW17 : H17 p7 = some (.lst (ws.map V.int)) := s17 _ _ hW14
  refine ⟨_, rfl, p7, _, rfl, .inl ⟨SqL.of hW17, fun t ht => ?_⟩⟩
  have s18 := Same.new ht (.tup (ws.map V.int))
  refine ⟨_, rfl, _, rfl, _, rfl, r, _, rfl, .inl (SqL.of (s18 _ _ hR17)), _, rfl, _, _, rfl, rfl, _, rfl, r, _, rfl, SqL.of (s18 _ _ hR17), fun p9 hp9 => ?_⟩
  rw [List.length_map, cut_map, cutI_from ds (by omega) (by omega)]
  have etn2 : ((ds.length : Int) - od).toNat = m + 1 + n * m := by omega
  rw [etn2]
  refine ⟨(by show 3 ≤ sizeLine; decide), fun p10 hp10 => ?_⟩
  have s19 := Same.new hp9 (.lst ((ds.drop (m + 1 + n * m)).map V.int))
  have s20 := Same.new hp10 (.lst [.ref t, .ref D5, .ref p9])
  have s1920 := s19.trans s20
  have edd : (ds.drop (m + 1)).drop (n * m) = ds.drop (m + 1 + n * m) := by rw [List.drop_drop]
  rw [edd] at hb4
  have hside : ∀ xs : List Int, (if 0 < dot ws (xs ++ [1]) then (1 : Int) else 0) = 0 ∨ (if 0 < dot ws (xs ++ [1]) then (1 : Int) else 0) = 1 := fun xs => by split <;> simp
  refine q p10 t D5 p9 _ ws ts _ (ds.drop (m + 1 + n * m)) (hS0.trans (s18.trans s1920)) (hS0.free (s18.free (s19.free hp10))) upd_same (s1920 _ _ upd_same) ((s18.trans s1920) _ _ hL5) (hRows.same (s18.trans s1920)) ⟨hm0, hm1, by rw [List.length_map]; omega, fun r hr => ?_, fun r hr => ?_, fun r hr => ?_⟩ (by rw [List.length_map]; omega) hwl hwb (fun r hr => ?_) (s20 _ _ upd_same) (fun o ho => hb4.2 o ho) hb4.1
  · obtain ⟨xs, hxs, rfl⟩ := List.mem_map.mp hr
    have := hc1 xs hxs
    show xs.length = m
    omega
  · obtain ⟨xs, hxs, rfl⟩ := List.mem_map.mp hr
    intro x hx
    have := hc2 xs hxs x hx
    omega
  · obtain ⟨xs, hxs, rfl⟩ := List.mem_map.mp hr
    exact hside xs
  · obtain ⟨xs, hxs, rfl⟩ := List.mem_map.mp hr
    have h1 := hodd xs (by have := hc1 xs hxs; omega)
    show 0 < turnF (dot ws (xs ++ [1])) (if 0 < dot ws (xs ++ [1]) then 1 else 0)
    unfold turnF
    by_cases z : 0 < dot ws (xs ++ [1])
    · rw [if_pos z, if_pos rfl]; exact z
    · rw [if_neg z, if_neg (by decide)]; omega
end
end Mw

namespace Mw
open PySem L2
section
variable {P : Program} {w : World} {K : PySem.W.Frag} {mg : Str → Option Value} {base : Heap} {f : Addr} {fd : FuncData} {I : HandI} {cls : Nat → Addr} {ks : List Nat} {np ns tm xp : Addr}
theorem sc__law_numbers_of : FnScope ["_law_rows", "_law_weights", "_law_gap", "_law_far"] ["_law_rows", "_law_weights"] (defScope (top 32)) := ⟨rfl, rfl, rfl, by decide +kernel, rfl, by decide +kernel, by decide +kernel⟩
theorem ok__law_numbers_of (F : Fun K "_law_numbers_of" "_law_numbers_of" (top 32) f fd) (T : Txt BN mg) (c__law_product : Cal P w K mg base 1 "_law_product" ["_law_weights", "_law_point"] (spLProd K)) : FnOk P w K mg base CX0 3 f fd ["_law_rows", "_law_weights"] (spNumbers K) := by
  refine F.ok sc__law_numbers_of (fun vs H Q E h => ?_) (fun cdv A outer s H vs Q E hr h => ?_)
  · obtain ⟨a, b, as, m, rs, ws, rfl, _⟩ := h
    rfl
  obtain ⟨a, b, as, m, rs, ws, rfl, hA, hR, hO, hne, hW, hwl, hwb, q⟩ := h
  refine ⟨_, (pss_cons (ps_set (i := 2) sc__law_numbers_of.nd rfl (Or.inl rfl) (pe_callB (call_minL rfl) rfl (T.nb "min" (by decide)) (by decide +kernel) (pa_cons (pe_comp (sc := defScope (top 32)) (N := ["_law_rows", "_law_weights", "_law_gap", "_law_far"]) (NB := ["_law_point", "_law_side", "_law_weights"]) (fr := [none, none, some 1]) rfl (by decide +kernel) (pi_list (pv 0)) (fun _ _ _ _ => (pg_tupK (K := K) (n := 2) rfl rfl (pgs_cons (pg_name (i := 0) (show (["_law_point", "_law_side", "_law_weights"] : List Str).Nodup by decide +kernel) rfl (Or.inl rfl)) (pgs_cons (pg_name (i := 1) (show (["_law_point", "_law_side", "_law_weights"] : List Str).Nodup by decide +kernel) rfl (Or.inl rfl)) pgs_nil)))) (fun _ _ _ _ => .nil) (fun _ _ _ _ => (pe_op op_mulB (pe_op op_sub (pe_op op_mulB pe_int (pv 1)) pe_int) (pe_cal c__law_product (hr.mono (by decide)) rfl (pa_cons (pv 2) (pa_cons (pv 0) pa_nil)))))) pa_nil)))
      (pss_cons (ps_set (i := 3) sc__law_numbers_of.nd rfl (Or.inl rfl) (pe_callB (call_maxL rfl) rfl (T.nb "max" (by decide)) (by decide +kernel) (pa_cons (pe_comp (sc := defScope (top 32)) (N := ["_law_rows", "_law_weights", "_law_gap", "_law_far"]) (NB := ["_law_point", "_law_side"]) (fr := [none, none]) rfl (by decide +kernel) (pi_list (pv 0)) (fun _ _ _ _ => (pg_tupK (K := K) (n := 2) rfl rfl (pgs_cons (pg_name (i := 0) (show (["_law_point", "_law_side"] : List Str).Nodup by decide +kernel) rfl (Or.inl rfl)) (pgs_cons (pg_name (i := 1) (show (["_law_point", "_law_side"] : List Str).Nodup by decide +kernel) rfl (Or.inl rfl)) pgs_nil)))) (fun _ _ _ _ => .nil) (fun _ _ _ _ => (pe_op op_add (pe_callB (call_sumK (K := K) rfl rfl) rfl (T.nb "sum" (by decide)) (by decide +kernel) (pa_cons (pe_compN (NB := ["_law_number"]) (fr := [none]) rfl (of_decide_eq_true (by kernel_rfl)) (pi_tupK (K := K) rfl (pv 0)) (fun _ _ _ _ => (pg_name (i := 0) (show (["_law_number"] : List Str).Nodup by decide +kernel) rfl (Or.inl rfl))) (fun _ _ _ _ => .nil) (fun _ _ _ _ => (pe_op op_mulB (pv 0) (pv 0)))) pa_nil)) pe_int))) pa_nil)))
      (pss_one (ps_ret (pe_lst (pa_cons (pv 2) (pa_cons (pv 3) (pa_cons (pe_callB (call_sumI rfl) rfl (T.nb "sum" (by decide)) (by decide +kernel) (pa_cons (pe_comp (sc := defScope (top 32)) (N := ["_law_rows", "_law_weights", "_law_gap", "_law_far"]) (NB := ["_law_number"]) (fr := [none]) rfl (by decide +kernel) (pi_tup (pv 1)) (fun _ _ _ _ => (pg_name (i := 0) (show (["_law_number"] : List Str).Nodup by decide +kernel) rfl (Or.inl rfl))) (fun _ _ _ _ => .nil) (fun _ _ _ _ => (pe_op op_mulB (pv 0) (pv 0)))) pa_nil)) pa_nil)))))))), ?_⟩
  have hlen : as.length = rs.length := Paired.length hR
  have hl200 := hO.len
  have hpos : 0 < rs.length := List.length_pos_iff.mpr hne
  have hwb1 : ∀ x ∈ ws, Bits 1000 x := fun x hx => (hwb x hx).mono (by decide)
  refine ⟨_, rfl, a, rfl, ⟨_, hA⟩, fun D hD => ?_⟩
  refine comp_list_rel (xs := as.map V.ref) (fun _ i y => ∀ r, rs[i]? = some r → y = .int (turnF (dot ws (r.1 ++ [1])) r.2)) (fun _ _ _ _ _ h => h) hA (by rw [List.length_map]; exact Nat.le_of_lt (small1000 (by omega))) hD ?_ ?_
  · rintro i x H1 R hx s1 hD1 hq
    obtain ⟨y, hy, rfl⟩ := of_map hx
    obtain ⟨r, hr1, p, q1, q2⟩ := paired_get hR hy
    have hm := List.mem_of_getElem? hr1
    have hc := hO.cnt _ hm
    have hf := hO.few
    have hs := hO.sid r hm
    refine ⟨y, _, rfl, s1.seqT q1, rfl, _, _, rfl, _, _, rfl, rfl, ⟨rfl, ?_⟩, ?_⟩
    · intro k v ek
      match k, ek with
      | 2, ek => exact ek
      | 0, ek => simp [carry] at ek
      | 1, ek => simp [carry] at ek
      | k + 3, ek => simp [carry] at ek
    refine ⟨_, rfl, _, _, rfl, rfl, mul64 (by decide) (by decide) (by omega) (by omega), _, _, rfl, rfl, _, rfl, _, rfl, b, p, true, true, ws, r.1, rfl, s1.seqT hW, s1.seqT q2, by omega, hwl, hwb1, hO.bits hm (by decide), fun H2 s2 => ?_⟩
    refine ⟨_, _, rfl, rfl, ?_, ?_⟩
    · refine ⟨1000, by decide, Bits.mono (n := 10) ?_ (by decide), dot_bits hwl hwb (Hnd.low_snoc (hO.low r hm))⟩
      show (2 * r.2 - 1).natAbs < 2 ^ 10
      rcases hs with z | z <;> rw [z] <;> decide
    · refine hq _ H2 s2 fun r2 hr2 => ?_
      rw [hr1] at hr2
      cases hr2
      show V.int ((2 * r.2 - 1) * dot ws (r.1 ++ [1])) = _
      rw [turn_two hs]
  rintro ys H1 s1 hD1 hy1 hy2
  rw [List.length_map, hlen] at hy1
  have ey : ys = (gaps ws rs).map V.int := by
    unfold gaps
    rw [List.map_map]
    exact ys_map hy1 fun j y r h1 h2 => hy2 j y h1 r h2
  subst ey
  refine ⟨D, gaps ws rs, rfl, SqL.of hD1, by rw [gaps_length]; exact hpos, fun z hz1 hz2 => ?_⟩
  refine ⟨_, rfl, a, rfl, ⟨_, s1.seq hA⟩, fun D2 hD2 => ?_⟩
  refine comp_list_rel (xs := as.map V.ref) (fun _ i y => ∀ r, rs[i]? = some r → y = .int (sqP r)) (fun _ _ _ _ _ h => h) (s1.seq hA) (by rw [List.length_map]; exact Nat.le_of_lt (small1000 (by omega))) hD2 ?_ ?_
  · rintro i x H2 R hx s2 hD21 hq
    obtain ⟨y, hy, rfl⟩ := of_map hx
    obtain ⟨r, hr1, p, q1, q2⟩ := paired_get hR hy
    have hm := List.mem_of_getElem? hr1
    have hc := hO.cnt _ hm
    have hf := hO.few
    have s12 := s1.trans s2
    refine ⟨y, _, rfl, s12.seqT q1, rfl, _, _, rfl, _, _, rfl, rfl, wk_none (n := 2) rfl, ?_⟩
    refine ⟨_, rfl, p, rfl, ⟨_, s12.seqT q2⟩, fun D3 hD3 => ?_⟩
    refine comp_tup_rel (xs := r.1.map V.int) (fun _ i y => ∀ x, r.1[i]? = some x → y = .int (x * x)) (fun _ _ _ _ _ h => h) (s12.seqT q2) (by rw [List.length_map]; exact Nat.le_of_lt (small1000 (by omega))) hD3 ?_ ?_
    · rintro j x H3 R2 hx3 s3 _ hq3
      obtain ⟨n, hn, rfl⟩ := of_map hx3
      have hb := hO.low r hm n (List.mem_of_getElem? hn)
      refine ⟨wk_none (n := 1) rfl, ?_⟩
      refine ⟨_, rfl, _, rfl, _, _, rfl, rfl, mul64 (by omega) (by omega) (by omega) (by omega), ?_⟩
      refine hq3 _ H3 (Same.refl _) fun x2 hx2 => ?_
      rw [hn] at hx2
      cases hx2
      rfl
    rintro zs H3 s3 hD3' hz1 hz2
    rw [List.length_map] at hz1
    have ez : zs = (r.1.map fun x => x * x).map V.int := by
      rw [List.map_map]
      exact ys_map hz1 fun j y r h1 h2 => hz2 j y h1 r h2
    subst ez
    refine ⟨D3, _, rfl, SqL.of hD3', _, _, rfl, rfl, ?_⟩
    refine hq _ H3 s3 fun r2 hr2 => ?_
    rw [hr1] at hr2
    cases hr2
    have e1 : (r.1.map fun x => x * x).sum = dot r.1 r.1 := by
      unfold dot
      rw [List.zipWith_self]
    show V.int ((r.1.map fun x => x * x).sum + 1) = _
    unfold sqP
    rw [e1, dot_snoc _ _ _ _ rfl, Int.mul_one]
  rintro zs H2 s2 hD22 hz3 hz4
  rw [List.length_map, hlen] at hz3
  have ez : zs = (rs.map sqP).map V.int := by
    rw [List.map_map]
    exact ys_map hz3 fun j y r h1 h2 => hz4 j y h1 r h2
  subst ez
  refine ⟨D2, rs.map sqP, rfl, SqL.of hD22, by rw [List.length_map]; exact hpos, fun f hf1 hf2 => ?_⟩
  have s12 := s1.trans s2
  refine ⟨_, rfl, _, rfl, _, rfl, b, rfl, ⟨_, s12.seqT hW⟩, fun D3 hD3 => ?_⟩
  refine comp_tup_rel (xs := ws.map V.int) (fun _ i y => ∀ x, ws[i]? = some x → y = .int (x * x)) (fun _ _ _ _ _ h => h) (s12.seqT hW) (by rw [List.length_map]; exact Nat.le_of_lt (small1000 hwl)) hD3 ?_ ?_
  · rintro j x H3 R2 hx3 s3 _ hq3
    obtain ⟨n, hn, rfl⟩ := of_map hx3
    have hb := hwb1 n (List.mem_of_getElem? hn)
    refine ⟨wk_none (n := 1) rfl, ?_⟩
    refine ⟨_, rfl, _, rfl, _, _, rfl, rfl, ⟨1000, by decide, hb, hb⟩, ?_⟩
    refine hq3 _ H3 (Same.refl _) fun x2 hx2 => ?_
    rw [hn] at hx2
    cases hx2
    rfl
  rintro zs H3 s3 hD3' hz1' hz2'
  rw [List.length_map] at hz1'
  have ez : zs = (ws.map fun x => x * x).map V.int := by
    rw [List.map_map]
    exact ys_map hz1' fun j y r h1 h2 => hz2' j y h1 r h2
  subst ez
  have e1 : (ws.map fun x => x * x).sum = dot ws ws := by
    unfold dot
    rw [List.zipWith_self]
  refine ⟨D3, _, rfl, SqL.of hD3', (by show 3 ≤ sizeLine; decide), fun p hp => ?_⟩
  rw [e1]
  exact q p _ z f ((s12.trans s3).trans (Same.new hp _)) (s12.free (s3.free hp)) upd_same hz1 hz2 hf1 hf2
end
end Mw

namespace Mw
open PySem L2
section
variable {P : Program} {w : World} {K : PySem.W.Frag} {mg : Str → Option Value} {base : Heap} {f : Addr} {fd : FuncData} {I : HandI} {cls : Nat → Addr} {ks : List Nat} {np ns tm xp : Addr}
theorem sc__law_book : FnScope ["_law_hand", "_law_rows", "_law_most", "_law_book_here"] ["_law_hand", "_law_rows", "_law_most"] (defScope (top 33)) := ⟨rfl, rfl, rfl, by decide +kernel, rfl, by decide +kernel, by decide +kernel⟩
theorem ok__law_book (F : Fun K "_law_book" "_law_book" (top 33) f fd) (T : Txt BN mg) (X_TooMany : ExR K mg "TooMany" tm) (e_TooMany_TooMany : PySem.W.exmOne K (.ref tm) (.ref tm) = some true) (c_run : CalX P w K mg base 22 "run" ["hand", "rows", "most"] (spRun K cls ks tm)) : FnOk P w K mg base CX0 23 f fd ["_law_hand", "_law_rows", "_law_most"] (spBook K cls ks) := by
  refine F.ok sc__law_book (fun vs H Q E h => ?_) (fun cdv A outer s H vs Q E hr h => ?_)
  · obtain ⟨a, b, as, rs, most, g, J, rfl, _⟩ := h
    rfl
  obtain ⟨a, b, as, rs, most, g, J, rfl, hA, hB, hR, hrl, hm0, hm9, RJ, hJ, q, hE⟩ := h
  refine ⟨_, (pss_cons (ps_set (i := 3) sc__law_book.nd rfl (Or.inl rfl) pe_non)
      (pss_cons (ps_tryN rfl rfl rfl X_TooMany.g (fun _ _ => (pss_one (ps_set (i := 3) sc__law_book.nd rfl (Or.inl rfl) (pe_calG c_run (hr.mono (by decide)) rfl tryC_pass (pa_cons (pv 0) (pa_cons (pv 1) (pa_cons (pv 2) pa_nil))))))) (fun _ _ => (pss_one (ps_set (i := 3) sc__law_book.nd rfl (Or.inl rfl) pe_non))))
      (pss_one (ps_ret (pv 3))))), ?_⟩
  refine ⟨_, rfl, _, rfl, _, rfl, a, b, as, rs, most, g, J, rfl, hA, hB, hR, hrl, hm0, hm9, RJ, hJ, fun g' bk r H' kp hA' hr0 hR' hJ' hl hw => ?_, fun i g' bk r H' kp hA' hJ' hr hw hl => ?_⟩
  · exact ⟨_, rfl, q g' bk r H' kp hA' hr0 hR' hJ' hl hw⟩
  · refine ⟨tm, rfl, e_TooMany_TooMany, fun e he => ?_⟩
    exact ⟨_, rfl, hE i g' bk r _ (kp.new he) (hA'.same (Same.new he _)) hJ' hr hw hl⟩
end
end Mw

namespace Mw
open PySem L2
section
variable {P : Program} {w : World} {K : PySem.W.Frag} {mg : Str → Option Value} {base : Heap} {f : Addr} {fd : FuncData} {I : HandI} {cls : Nat → Addr} {ks : List Nat} {np ns tm xp : Addr}
theorem sc__law_all_right : FnScope ["_law_hand", "_law_rows", "_law_margin", "_law_held", "_law_point", "_law_side"] ["_law_hand", "_law_rows", "_law_margin"] (defScope (top 34)) := ⟨rfl, rfl, rfl, by decide +kernel, rfl, by decide +kernel, by decide +kernel⟩
theorem ok__law_all_right (F : Fun K "_law_all_right" "_law_all_right" (top 34) f fd) (T : Txt BN mg) (c__law_product : Cal P w K mg base 1 "_law_product" ["_law_weights", "_law_point"] (spLProd K)) (gm_tells : MCal P w K mg base 20 (Kds cls ks) "tells" ["self", "point"] (spTellsG K cls ks np)) (gm_put : MCal P w K mg base 20 (Kds cls ks) "put" ["self", "point", "side"] (spPutG K cls ks np ns)) (gm_weights : MCal P w K mg base 20 (Kds cls ks) "weights" ["self"] (spWtsG cls ks)) : FnOk P w K mg base CX0 23 f fd ["_law_hand", "_law_rows", "_law_margin"] (spAllR K cls ks) := by
  refine F.ok sc__law_all_right (fun vs H Q E h => ?_) (fun cdv A outer s H vs Q E hr h => ?_)
  · obtain ⟨a, b, as, m, rs, mg, h, rfl, _⟩ := h
    rfl
  obtain ⟨a, b, as, m, rs, mg, h, rfl, hA, ho, he, hB, hR, hO, hm, hall, q⟩ := h
  refine ⟨_, (pss_cons (ps_set (i := 3) sc__law_all_right.nd rfl (Or.inl rfl) (pe_methG0 (pv 0) gm_weights (hr.mono (by decide)) passG_never))
      (pss_cons (ps_for PassesOwn.never rfl (pi_list (pv 1)) (pg_tupK (K := K) (n := 2) rfl rfl (pgs_cons (pg_name (i := 4) sc__law_all_right.nd rfl (Or.inl rfl)) (pgs_cons (pg_name (i := 5) sc__law_all_right.nd rfl (Or.inl rfl)) pgs_nil))) (pss_cons (ps_if (PW.pt (pw_or (pt_cmpR op_ne (pe_methG (pv 0) gm_tells (hr.mono (by decide)) passG_never (pa_cons (pv 4) pa_nil)) (pv 5) (nomark _)) (pw_or1 (pt_cmpR op_le (pe_op op_mulB (pe_op op_sub (pe_op op_mulB pe_int (pv 5)) pe_int) (pe_cal c__law_product (hr.mono (by decide)) rfl (pa_cons (pv 3) (pa_cons (pv 4) pa_nil)))) (pv 2) (nomark _))))) (pss_one (ps_ret pe_bl)) pss_nil)
      (pss_one (ps_if (pt_cmpR op_isnotB (pe_methG (pv 0) gm_put (hr.mono (by decide)) passG_never (pa_cons (pv 4) (pa_cons (pv 5) pa_nil))) pe_bl (nomark _)) (pss_one (ps_ret pe_bl)) pss_nil))))
      (pss_one (ps_ret (pe_cmpR (op_eqTI (K := K) rfl hr.units0) (pe_methG0 (pv 0) gm_weights (hr.mono (by decide)) passG_never) (pv 3) (nomark _)))))), ?_⟩
  have hal : as.length = rs.length := Paired.length hR
  obtain ⟨C, dx, fs, hi, hk, hno⟩ := hA.ins
  refine ⟨_, rfl, a, C, dx, fs, rfl, hi, hk, hno _ (by decide +kernel), ⟨_, _, hi⟩, a, .p h, rfl, hA, fun t ht => ?_⟩
  have ht : H t = some (.tup (h.ws.map V.int)) := ht
  refine ⟨_, rfl, b, rfl, ⟨_, SqL.of hB⟩, ?_⟩
  refine for_list (xs := as.map V.ref) (fun i σ H' => ∃ v4 v5 : Option V, σ = [some (.ref a), some (.ref b), some (.int mg), some (.ref t), v4, v5] ∧ Kp [a] H H' ∧ GAt cls ks H' a (.p h)) ⟨none, none, rfl, Kp.refl, hA⟩
    (fun i σ H' _ ⟨_, _, _, kp, _⟩ => kp.seq (SqL.of hB)) ?_ ?_
  · rintro i x σ H' hx ⟨v4, v5, rfl, kp, hA'⟩
    obtain ⟨A, hA1, rfl⟩ := of_map hx
    obtain ⟨r, hr1, p, hr2, hr3⟩ := paired_get hR hA1
    have hrm := List.mem_of_getElem? hr1
    obtain ⟨w1, w2, w3⟩ := hall r hrm
    have hsd := hO.sid r hrm
    have hpt : h.PtOk r.1 := ⟨by rw [hm]; exact hO.cnt r hrm, hO.low r hrm⟩
    have hhas : (Gnd.p h).has r.2 = true := decide_eq_true hsd
    refine ⟨A, _, rfl, kp.seqT hr2, rfl, _, _, rfl, _, _, rfl, rfl, ?_⟩
    obtain ⟨C, dx, fs, hi, hk, hno⟩ := hA'.ins
    refine ⟨_, rfl, a, C, dx, fs, rfl, hi, hk, hno _ (by decide +kernel), _, rfl, ⟨_, _, hi⟩, a, p, .p h, r.1, rfl, hA', ho, he, kp.seqT hr3, fun n => absurd hpt.len n, fun _ => ⟨hpt, fun H2 s2 => ?_⟩⟩
    refine ⟨_, rfl, (by show scal (guessV (h.prod r.1)) (.int r.2) = true; rw [w1]; rfl), _, rfl, ?_⟩
    refine iteNS w1 ?_
    have kp2 := kp.trans (Kp.of s2)
    have hlen := ho.len
    have hf4 := ho.few
    have hpl := hpt.len
    refine ⟨_, rfl, _, _, rfl, rfl, mul64 (by decide) (by decide) (by omega) (by omega), _, _, rfl, rfl, _, rfl, _, rfl, t, p, true, true, h.ws, r.1, rfl, SqT.of (kp2.tup ht), kp2.seqT hr3, by omega, by omega, Hnd.bits ho he, Hnd.ptbits hpt, fun H3 s3 => ?_⟩
    have ez : dot h.ws (r.1 ++ [1]) = h.prod r.1 := rfl
    obtain ⟨pl1, pl2⟩ := Hnd.prod_low ho he hpt
    rw [ez]
    refine ⟨_, _, rfl, rfl, mul64 (by omega) (by omega) (by omega) (by omega), _, rfl, _, _, rfl, rfl, _, rfl, ?_⟩
    refine iteD (fun z => ?_) (fun _ => ?_)
    · have z1 : (2 * r.2 - 1) * h.prod r.1 ≤ mg := z
      omega
    have s23 := s2.trans s3
    have hA3 := hA'.same s23
    have kp3 := kp.trans (Kp.of s23)
    obtain ⟨C, dx, fs, hi, hk, hno⟩ := hA3.ins
    refine ⟨_, rfl, a, C, dx, fs, rfl, hi, hk, hno _ (by decide +kernel), _, rfl, _, rfl, ⟨_, _, hi⟩, a, p, .p h, r.1, r.2, rfl, hA3, ho, he, kp3.seqT hr3, fun n => absurd hpt.len n, fun _ n => (by rw [hhas] at n; cases n), fun _ _ => ⟨hpt, fun H4 k4 hA4 => ?_⟩⟩
    have est : (Gnd.p h).step r.1 r.2 = .p h := by
      rw [Gnd.step_eq, if_neg (by show ¬ h.wrong r.1 r.2 = true; rw [w3]; simp)]
    rw [est] at hA4
    have ew : (Gnd.p h).wrong r.1 r.2 = false := w3
    rw [ew]
    refine ⟨false, false, rfl, rfl, _, rfl, ?_⟩
    refine iteF ?_
    exact ⟨_, _, rfl, kp3.trans k4, hA4⟩
  · rintro σ H' ⟨v4, v5, rfl, kp, hA'⟩
    obtain ⟨C, dx, fs, hi, hk, hno⟩ := hA'.ins
    refine ⟨_, rfl, a, C, dx, fs, rfl, hi, hk, hno _ (by decide +kernel), ⟨_, _, hi⟩, a, .p h, rfl, hA', fun t2 ht2 => ?_⟩
    have ht2 : H' t2 = some (.tup (h.ws.map V.int)) := ht2
    refine ⟨_, rfl, t2, t, h.ws, h.ws, rfl, rfl, SqT.of ht2, SqT.of (kp.tup ht), ?_⟩
    rw [decide_eq_true rfl]
    exact q H' kp hA'
end
end Mw

namespace Mw
open PySem L2
section
variable {P : Program} {w : World} {K : PySem.W.Frag} {mg : Str → Option Value} {base : Heap} {f : Addr} {fd : FuncData} {I : HandI} {cls : Nat → Addr} {ks : List Nat} {np ns tm xp : Addr}
theorem sc_law : FnScope ["_law_script", "_law_head", "_law_many", "_law_size", "_law_reach", "_law_margin", "_law_weights", "_law_rows", "_law_order", "_law_hand", "_law_bound", "_law_numbers", "_law_book_here"] ["_law_script"] (defScope (top 35)) := ⟨rfl, rfl, rfl, by decide +kernel, rfl, by decide +kernel, by decide +kernel⟩
theorem ok_law (F : Fun K "law" "law" (top 35) f fd) (T : Txt BN mg) (kin12 : 1 ∈ ks ∧ 2 ∈ ks) (c__law_cell_at : Cal P w K mg base 1 "_law_cell_at" ["_law_script", "_law_k"] (spCell K)) (c__law_parted : Cal P w K mg base 4 "_law_parted" ["_law_script", "_law_size", "_law_reach", "_law_many", "_law_order"] (spParted18 K)) (c__law_numbers_of : Cal P w K mg base 3 "_law_numbers_of" ["_law_rows", "_law_weights"] (spNumbers K)) (c_bound_of : CalX P w K mg base 6 "bound_of" ["rows", "weights", "margin"] (spBnd K xp)) (c__law_book : Cal P w K mg base 23 "_law_book" ["_law_hand", "_law_rows", "_law_most"] (spBook K cls ks)) (c__law_all_right : Cal P w K mg base 23 "_law_all_right" ["_law_hand", "_law_rows", "_law_margin"] (spAllR K cls ks)) (gn_PlainHand : NCal P w K mg base 20 "PlainHand" ["self", "many"] (spNew (hI cls ks) 1)) (gn_MarginHand : NCal P w K mg base 20 "MarginHand" ["self", "many", "margin"] (spNew (hI cls ks) 2)) (gm_weights : MCal P w K mg base 20 (Kds cls ks) "weights" ["self"] (spWtsG cls ks)) (gm_mistakes : MCal P w K mg base 20 (Kds cls ks) "mistakes" ["self"] (spErrG cls ks)) : FnOk P w K mg base CX0 26 f fd ["_law_script"] (spLaw K) := by
  refine F.ok sc_law (fun vs H Q E h => ?_) (fun cdv A outer s H vs Q E hr h => ?_)
  · obtain ⟨a, ns, rfl, _⟩ := h
    rfl
  obtain ⟨a, ns, rfl, hS, hl63, q⟩ := h
  refine ⟨_, (pss_cons (ps_join (ps_set (i := 1) sc_law.nd rfl (Or.inl rfl) (pe_op op_mod (pe_op op_fdivP (pe_cal c__law_cell_at (hr.mono (by decide)) rfl (pa_cons (pv 0) (pa_cons pe_int pa_nil))) pe_int) (pe_op op_pow pe_int pe_int))))
      (pss_cons (ps_set (i := 2) sc_law.nd rfl (Or.inl rfl) (pe_op op_add pe_int (pe_op op_mod (pv 1) pe_int)))
      (pss_cons (ps_join (ps_set (i := 3) sc_law.nd rfl (Or.inl rfl) (pe_op op_add pe_int (pe_op op_mod (pe_op op_fdivP (pv 1) pe_int) pe_int))))
      (pss_cons (ps_join (ps_set (i := 4) sc_law.nd rfl (Or.inl rfl) (pe_ix (ix_listK (K := K) rfl) (pe_lst (pa_cons pe_int (pa_cons pe_int pa_nil))) (pe_op op_mod (pe_op op_fdivP (pv 1) pe_int) pe_int) (fun _ _ => rfl))))
      (pss_cons (ps_join (ps_set (i := 5) sc_law.nd rfl (Or.inl rfl) (pe_ix (ix_listK (K := K) rfl) (pe_lst (pa_cons pe_int (pa_cons (pe_op op_mod (pe_op op_fdivP (pv 1) pe_int) pe_int) pa_nil))) (pe_op op_mod (pe_op op_fdivP (pv 1) pe_int) pe_int) (fun _ _ => rfl))))
      (pss_cons (ps_asg (pe_cal c__law_parted (hr.mono (by decide)) rfl (pa_cons (pv 0) (pa_cons (pv 3) (pa_cons (pv 4) (pa_cons (pv 2) (pa_cons pe_int pa_nil)))))) (pg_lstK (K := K) (n := 3) rfl rfl (pgs_cons (pg_name (i := 6) sc_law.nd rfl (Or.inl rfl)) (pgs_cons (pg_name (i := 7) sc_law.nd rfl (Or.inl rfl)) (pgs_cons (pg_name (i := 8) sc_law.nd rfl (Or.inl rfl)) pgs_nil)))))
      (pss_cons (ps_set (i := 9) sc_law.nd rfl (Or.inl rfl) (pe_newG gn_PlainHand (hr.mono (by decide)) rfl passG_never (pa_cons (pv 2) pa_nil)))
      (pss_cons (ps_join (ps_if (pt_cmpR op_eq (pe_op op_mod (pe_op op_fdivP (pv 1) pe_int) pe_int) pe_int (nomark _)) (pss_one (ps_set (i := 9) sc_law.nd rfl (Or.inl rfl) (pe_newG gn_MarginHand (hr.mono (by decide)) rfl passG_never (pa_cons (pv 2) (pa_cons (pv 5) pa_nil))))) pss_nil))
      (pss_cons (ps_set (i := 10) sc_law.nd rfl (Or.inl rfl) (pe_calG c_bound_of (hr.mono (by decide)) rfl passG_never (pa_cons (pv 7) (pa_cons (pv 6) (pa_cons (pv 5) pa_nil)))))
      (pss_cons (ps_set (i := 11) sc_law.nd rfl (Or.inl rfl) (pe_cal c__law_numbers_of (hr.mono (by decide)) rfl (pa_cons (pv 7) (pa_cons (pv 6) pa_nil))))
      (pss_cons (ps_if (pt_cmpR op_ne (pv 10) (pe_op op_fdivP (pe_op op_mulB (pe_op op_add (pe_ix (ix_listK (K := K) rfl) (pv 11) pe_int (fun _ _ => rfl)) (pe_op op_mulB pe_int (pv 5))) (pe_ix (ix_listK (K := K) rfl) (pv 11) pe_int (fun _ _ => rfl))) (pe_op op_mulB (pe_ix (ix_listK (K := K) rfl) (pv 11) pe_int (fun _ _ => rfl)) (pe_ix (ix_listK (K := K) rfl) (pv 11) pe_int (fun _ _ => rfl)))) (nomark _)) (pss_one (ps_ret pe_bl)) pss_nil)
      (pss_cons (ps_set (i := 12) sc_law.nd rfl (Or.inl rfl) (pe_cal c__law_book (hr.mono (by decide)) rfl (pa_cons (pv 9) (pa_cons (pv 7) (pa_cons (pe_callB (call_min2 rfl) rfl (T.nb "min" (by decide)) (by decide +kernel) (pa_cons (pv 10) (pa_cons pe_int pa_nil))) pa_nil)))))
      (pss_cons (ps_if (pt_cmpR op_isN (pv 12) pe_non (nomark _)) (pss_one (ps_ret (pe_and (pe_cmpR op_gt (pv 10) pe_int (nomark _)) (pe_one (pe_cmpR op_eq (pe_methG0 (pv 9) gm_mistakes (hr.mono (by decide)) passG_never) pe_int (nomark _)))))) pss_nil)
      (pss_cons (ps_if (PW.pt (pw_or (pt_cmpR op_ne (pe_callB (call_lenK (K := K) rfl) rfl (T.nb "len" (by decide)) (by decide +kernel) (pa_cons (pv 12) pa_nil)) (pe_methG0 (pv 9) gm_mistakes (hr.mono (by decide)) passG_never) (nomark _)) (pw_or (pt_cmpR op_gt (pe_callB (call_lenK (K := K) rfl) rfl (T.nb "len" (by decide)) (by decide +kernel) (pa_cons (pv 12) pa_nil)) (pv 10) (nomark _)) (pw_or1 (pt_not (pt_val (pe_cal c__law_all_right (hr.mono (by decide)) rfl (pa_cons (pv 9) (pa_cons (pv 7) (pa_cons (pv 5) pa_nil)))))))))) (pss_one (ps_ret pe_bl)) pss_nil)
      (pss_one (ps_ret (pe_cmpR op_ge (pe_calG c_bound_of (hr.mono (by decide)) rfl passG_never (pa_cons (pv 7) (pa_cons (pe_methG0 (pv 9) gm_weights (hr.mono (by decide)) passG_never) (pa_cons (pv 5) pa_nil)))) (pe_callB (call_lenK (K := K) rfl) rfl (T.nb "len" (by decide)) (by decide +kernel) (pa_cons (pv 12) pa_nil)) (nomark _)))))))))))))))))), ?_⟩
  obtain ⟨k1in, k2in⟩ := kin12
  refine ⟨fun σ H' => ∃ hd : Int, 0 ≤ hd ∧ σ = [some (.ref a), some (.int hd), none, none, none, none, none, none, none, none, none, none, none] ∧ H' = H, ?_, ?_⟩
  · refine ⟨_, rfl, a, ns, 0, rfl, hS, by decide, _, _, rfl, rfl, div64 (by decide) (by decide), _, _, rfl, rfl, ⟨by decide, by decide, by decide⟩, _, _, rfl, rfl, (by show (0 : Int) < 10 ^ 15; decide), ?_⟩
    exact ⟨_, Int.emod_nonneg _ (by decide), rfl, rfl⟩
  rintro σ H0 ⟨hd, hd0, rfl, e0⟩
  subst e0
  obtain ⟨m, em⟩ : ∃ m : Nat, 1 + hd % 4 = (m : Int) := ⟨(1 + hd % 4).toNat, by omega⟩
  obtain ⟨n, en⟩ : ∃ k : Nat, 1 + hd / 4 % 8 = (k : Int) := ⟨(1 + hd / 4 % 8).toNat, by omega⟩
  have hm0 : 0 < m := by omega
  have hm4 : m ≤ 4 := by omega
  have hn0 : 0 < n := by omega
  have hn8 : n ≤ 8 := by omega
  refine ⟨_, rfl, _, _, rfl, rfl, (by show (0 : Int) < 4; decide), _, _, rfl, rfl, ?_⟩
  refine ⟨fun σ H' => σ = [some (.ref a), some (.int hd), some (.int m), some (.int n), none, none, none, none, none, none, none, none, none] ∧ H' = H0, ?_, ?_⟩
  · refine ⟨_, rfl, _, _, rfl, rfl, div64 (by decide) (by decide), _, _, rfl, rfl, (by show (0 : Int) < 8; decide), _, _, rfl, rfl, ?_, rfl⟩
    show [some (V.ref a), some (.int hd), some (.int (1 + hd % 4)), some (.int (1 + hd / 4 % 8)), none, none, none, none, none, none, none, none, none] = _
    rw [em, en]
  clear em en
  rintro σ H1 ⟨rfl, rfl⟩
  refine ⟨fun σ H' => ∃ re : Int, (re = 2 ∨ re = 3) ∧ σ = [some (.ref a), some (.int hd), some (.int m), some (.int n), some (.int re), none, none, none, none, none, none, none, none] ∧ Same H1 H', ?_, ?_⟩
  · refine ⟨(by show 2 ≤ sizeLine; decide), fun p1 hp1 => ?_⟩
    have q2 : 0 ≤ hd / 32 % 2 ∧ hd / 32 % 2 < 2 := ⟨Int.emod_nonneg _ (by decide), Int.emod_lt_of_pos _ (by decide)⟩
    obtain ⟨re, hre, hat1⟩ := at_mem (ds := [2, 3]) (z := hd / 32 % 2) q2.1 q2.2
    refine ⟨_, rfl, _, _, rfl, rfl, div64 (by decide) (by decide), _, _, rfl, rfl, (by show (0 : Int) < 2; decide), p1, _, _, _, rfl, rfl, SqL.of upd_same, hat1, ?_⟩
    exact ⟨re, by simpa using hre, rfl, Same.new hp1 _⟩
  rintro σ H2 ⟨re, hre, rfl, s2⟩
  -- the margin
  refine ⟨fun σ H' => ∃ mg : Int, 0 ≤ mg ∧ mg ≤ 20 ∧ (¬ hd / 64 % 2 = 1 → mg = 0) ∧ σ = [some (.ref a), some (.int hd), some (.int m), some (.int n), some (.int re), some (.int mg), none, none, none, none, none, none, none] ∧ Same H2 H', ?_, ?_⟩
  · have q2 : 0 ≤ hd / 64 % 2 ∧ hd / 64 % 2 < 2 := ⟨Int.emod_nonneg _ (by decide), Int.emod_lt_of_pos _ (by decide)⟩
    have q21 : 0 ≤ hd / 128 % 21 ∧ hd / 128 % 21 < 21 := ⟨Int.emod_nonneg _ (by decide), Int.emod_lt_of_pos _ (by decide)⟩
    obtain ⟨mg, hmg, hat1⟩ : ∃ mg : Int, (0 ≤ mg ∧ mg ≤ 20 ∧ (¬ hd / 64 % 2 = 1 → mg = 0)) ∧ atI (([0, hd / 128 % 21] : List Int).map V.int) (hd / 64 % 2) = some (.int mg) := by
      by_cases z : hd / 64 % 2 = 1
      · exact ⟨hd / 128 % 21, ⟨by omega, by omega, fun y => absurd z y⟩, by rw [z]; rfl⟩
      · have z0 : hd / 64 % 2 = 0 := by omega
        exact ⟨0, ⟨by decide, by decide, fun _ => rfl⟩, by rw [z0]; rfl⟩
    refine ⟨_, rfl, _, _, rfl, rfl, div64 (by decide) (by decide), _, _, rfl, rfl, (by show (0 : Int) < 21; decide), (by show 2 ≤ sizeLine; decide), fun p1 hp1 => ?_⟩
    refine ⟨_, rfl, _, _, rfl, rfl, div64 (by decide) (by decide), _, _, rfl, rfl, (by show (0 : Int) < 2; decide), p1, _, _, _, rfl, rfl, SqL.of upd_same, hat1, ?_⟩
    exact ⟨mg, hmg.1, hmg.2.1, hmg.2.2, rfl, Same.new hp1 _⟩
  rintro σ H3 ⟨mg, hg0, hg20, hgz, rfl, s3⟩
  have s13 := s2.trans s3
  -- weights and rows
  refine ⟨_, rfl, _, rfl, _, rfl, _, rfl, a, ns, n, m, 0, re, rfl, s13.seq hS, hn0, by omega, hm0, hm4, by omega, by omega, by decide, fun r t rr ro H4 ws as rs os s4 hr0 hR hT hRR hRs hO hrl hwl hwb hpart _ _ _ => ?_⟩
  refine ⟨r, _, rfl, SqL.of hR, rfl, _, _, rfl, _, _, rfl, _, _, rfl, rfl, ?_⟩
  have hne : rs ≠ [] := fun z => by rw [z] at hrl; simp at hrl; omega
  have hwb2 : ∀ w ∈ ws, w.natAbs ≤ 1000000000 := fun w hw => by have := hwb w hw; omega
  have hparted : ((gaps ws rs).all fun n => decide (0 < n)) = true := by
    rw [List.all_eq_true]
    intro z hz
    unfold gaps at hz
    obtain ⟨r1, hr1, rfl⟩ := List.mem_map.mp hz
    exact decide_eq_true (hpart r1 hr1)
  -- the hand
  refine ⟨_, rfl, m, 0, rfl, hm0, hm4, fun x H5 s5 hx5 hA5 => ?_⟩
  refine ⟨fun σ H' => ∃ (x : Addr) (kd : Nat), (kd = 1 ∧ mg = 0 ∨ kd = 2) ∧ kd < 3 ∧ σ = [some (.ref a), some (.int hd), some (.int m), some (.int n), some (.int re), some (.int mg), some (.ref t), some (.ref rr), some (.ref ro), some (.ref x), none, none, none] ∧ Same H4 H' ∧ GAt cls ks H' x (.p (Hnd.new kd mg m)), ?_, ?_⟩
  · refine ⟨_, rfl, _, _, rfl, rfl, div64 (by decide) (by decide), _, _, rfl, rfl, (by show (0 : Int) < 2; decide), rfl, _, rfl, ?_⟩
    refine iteD (fun z => ?_) (fun z => ?_)
    · refine ⟨_, rfl, _, rfl, m, mg, rfl, hm0, hm4, fun y H6 s6 hy6 hA6 => ?_⟩
      exact ⟨y, 2, .inr rfl, by decide, rfl, s5.trans s6, hA6⟩
    · have z2 : mg = 0 := hgz fun y => z (by show V.int (hd / 64 % 2) = V.int 1; rw [y])
      refine ⟨x, 1, .inl ⟨rfl, z2⟩, by decide, rfl, s5, ?_⟩
      rw [z2]; exact hA5
  clear hA5 hx5 s5 x H5
  rintro σ H6 ⟨x, kd, hkd, hkd3, rfl, s6, hA6⟩
  have hRR6 : H6 rr = some (.lst (as.map V.ref)) := s6 _ _ hRR
  have hT6 : H6 t = some (.tup (ws.map V.int)) := s6 _ _ hT
  -- the bound
  refine ⟨_, rfl, _, rfl, _, rfl, rr, t, as, m, rs, ws, mg, rfl, SqL.of hRR6, hRs.same s6, hO, SqT.of hT6, by omega, hwb2, hg0, by omega, fun z => (by rw [hparted] at z; cases z), fun z => absurd z hne, fun _ _ z1 H7 s7 hz1 hz2 => ?_⟩
  have hz1p : 0 < z1 := of_decide_eq_true (List.all_eq_true.mp hparted z1 hz1)
  have hz1b := gap_abs hO (by omega) hwb2 hz1
  obtain ⟨f0, f1⟩ := far_abs hO
  obtain ⟨sq0, sq1⟩ := sq_abs (ws := ws) (by omega) hwb2
  refine ⟨_, rfl, _, rfl, rr, t, as, m, rs, ws, rfl, SqL.of (s7 _ _ hRR6), (hRs.same s6).same s7, hO, hne, SqT.of (s7 _ _ hT6), by omega, fun w hw => small_bits9 (hwb2 w hw), fun rn H8 z2 f8 s8 hr8 hN hz3 hz4 hf1 hf2 => ?_⟩
  have ez : z2 = z1 := by have a1 := hz2 z2 hz3; have a2 := hz4 z1 hz1; omega
  have ef : f8 = farF rs := far_is (m := m) hf1 hf2
  subst ez ef
  have hgg : 0 < z2 * z2 := Int.mul_pos hz1p hz1p
  have hggb : (z2 * z2).natAbs ≤ 10000000000000 * 10000000000000 := by rw [Int.natAbs_mul]; exact Nat.mul_le_mul hz1b hz1b
  refine ⟨_, rfl, _, rfl, rn, _, _, _, rfl, rfl, SqL.of hN, rfl, _, rfl, _, _, rfl, rfl, mul64 (by decide) (by decide) (by omega) (by omega), _, _, rfl, rfl, _, rfl, rn, _, _, _, rfl, rfl, SqL.of hN, rfl, _, _, rfl, rfl, ⟨1000, by decide, bits_of_abs (by show (farF rs + 2 * mg).natAbs ≤ _; omega) (by decide), bits_of_abs (by omega) (by decide)⟩, _, rfl, rn, _, _, _, rfl, rfl, SqL.of hN, rfl, _, rfl, rn, _, _, _, rfl, rfl, SqL.of hN, rfl, _, _, rfl, rfl, ⟨1000, by decide, bits_of_abs (by omega) (by decide), bits_of_abs (by omega) (by decide)⟩, _, _, rfl, rfl, ⟨hgg, bits_of_abs (by omega) (by decide)⟩, rfl, _, rfl, ?_⟩
  refine iteNS rfl ?_
  -- the run
  have s68 := s7.trans s8
  have hA8 := hA6.same s68
  have hRR8 : H8 rr = some (.lst (as.map V.ref)) := s68 _ _ hRR6
  have hRs8 := (hRs.same s6).same s68
  have hT8 : H8 t = some (.tup (ws.map V.int)) := s68 _ _ hT6
  generalize hBd : bndF rs ws mg z2 = bd at *
  have hbd0 : 0 ≤ bd := by
    have := (PJ.new (rs := rs) (mg := mg) hm0 hm4 hkd3).bound hO hg0 hwl hz1p hz2
    rw [hBd] at this
    have e : ((Hnd.new kd mg m).err : Int) = 0 := rfl
    omega
  generalize hmo : (if (150 : Int) < bd then (150 : Int) else bd) = mo
  have hmo1 : 0 ≤ mo ∧ mo ≤ 150 ∧ mo ≤ bd ∧ (bd ≤ 150 → mo = bd) ∧ (150 < bd → mo = 150) := by
    rw [← hmo]; split <;> omega
  have hRJ : RunJ rs mo (fun _ g bk => ∃ h, g = .p h ∧ PJ m kd mg rs h ∧ h.err = bk.length ∧ (bk.length : Int) ≤ mo) := by
    refine ⟨fun i g bk ⟨h, e1, P, e2, e3⟩ => ?_, fun i g bk r1 ⟨h, e1, P, e2, e3⟩ hr => ?_, fun i g bk r1 hJ _ _ => hJ, fun i g bk r1 ⟨h, e1, P, e2, e3⟩ hr hw hlt => ?_, fun g bk hJ => hJ⟩
    · subst e1
      exact ⟨P.ok, by show h.err ≤ errTop + 0; have : errTop = 1000000 := rfl; omega⟩
    · subst e1
      exact ⟨P.pt hO (List.mem_of_getElem? hr), decide_eq_true (hO.sid _ (List.mem_of_getElem? hr))⟩
    · subst e1
      have hw : h.wrong r1.1 r1.2 = true := hw
      refine ⟨h.step r1.1 r1.2, rfl, P.step hO (List.mem_of_getElem? hr) hw hkd, ?_, ?_⟩
      · rw [Hnd.step_err, if_pos hw, e2, List.length_append]; rfl
      · rw [List.length_append, List.length_singleton]; omega
  refine ⟨_, rfl, _, rfl, _, rfl, bd, 150, rfl, x, rr, as, rs, mo, .p (Hnd.new kd mg m), _, by rw [← hmo]; rfl, hA8, hRR8, hRs8, by omega, hmo1.1, by omega, hRJ, ⟨Hnd.new kd mg m, rfl, PJ.new hm0 hm4 hkd3, rfl, hmo1.1⟩, fun g bk rb H9 kp hA9 hrb hRb hJ hl hall => ?_, fun i g bk r1 H9 kp hA9 hJ hr hw hl => ?_⟩
  · obtain ⟨h, rfl, P, he, hl2⟩ := hJ
    have herr : h.err ≤ errTop := by have : errTop = 1000000 := rfl; omega
    refine ⟨_, rfl, rfl, _, rfl, ?_⟩
    refine iteF ?_
    obtain ⟨C, dx, fs, hi, hk, hno⟩ := hA9.ins
    refine ⟨_, rfl, rb, _, rfl, .inl (SqL.of hRb), _, rfl, x, C, dx, fs, rfl, hi, hk, hno _ (by decide +kernel), ⟨_, _, hi⟩, x, .p h, rfl, hA9, rfl, _, rfl, ?_⟩
    refine iteNS (by rw [List.length_map]; show V.int (bk.length : Int) = V.int (h.err : Int); rw [he]) ?_
    have hbnd := P.bound hO hg0 hwl hz1p hz2
    rw [hBd] at hbnd
    refine ⟨_, rfl, rb, _, rfl, .inl (SqL.of hRb), _, rfl, _, _, rfl, rfl, _, rfl, ?_⟩
    refine iteD (fun z => ?_) (fun _ => ?_)
    · exfalso
      have z1 : bd < ((numsV bk).length : Int) := z
      rw [List.length_map] at z1
      omega
    -- all right
    have hright : ∀ r ∈ rs, guessV (h.prod r.1) = .int r.2 ∧ mg < (2 * r.2 - 1) * h.prod r.1 ∧ h.wrong r.1 r.2 = false := fun r1 hr1 => by
      have w3 : h.wrong r1.1 r1.2 = false := hall r1 hr1
      have hsd := hO.sid r1 hr1
      unfold Hnd.wrong at w3
      rw [P.ekd, P.emg] at w3
      have w4 : h.wrong r1.1 r1.2 = false := hall r1 hr1
      rcases hkd with ⟨k1, k2⟩ | k2
      · rw [if_neg (by omega)] at w3
        have w5 : guessV (h.prod r1.1) = V.int r1.2 := Classical.not_not.mp (of_decide_eq_false w3)
        refine ⟨w5, ?_, w4⟩
        rw [k2]
        generalize h.prod r1.1 = z at *
        unfold guessV at w5
        by_cases z0 : z = 0
        · rw [if_pos z0] at w5; cases w5
        · rw [if_neg z0] at w5
          have w6 : (if 0 < z then (1 : Int) else 0) = r1.2 := by injection w5
          by_cases zp : 0 < z
          · rw [if_pos zp] at w6; rw [← w6]; omega
          · rw [if_neg zp] at w6; rw [← w6]; omega
      · rw [if_pos k2] at w3
        have w5 : ¬ (2 * r1.2 - 1) * h.prod r1.1 ≤ mg := of_decide_eq_false w3
        refine ⟨?_, by omega, w4⟩
        generalize h.prod r1.1 = z at *
        unfold guessV
        rcases hsd with e | e
        · rw [e] at w5 ⊢
          rw [if_neg (by omega), if_neg (by omega)]
        · rw [e] at w5 ⊢
          rw [if_neg (by omega), if_pos (by omega)]
    refine ⟨_, rfl, _, rfl, _, rfl, x, rr, as, m, rs, mg, h, rfl, hA9, P.ok, herr, kp.lst hRR8, kp.rows hRs8, hO, P.ema, hright, fun H10 k10 hA10 => ⟨_, rfl, ?_⟩⟩
    refine iteF ?_
    -- the bound by its own weights
    obtain ⟨C, dx, fs, hi, hk, hno⟩ := hA10.ins
    have kp10 := kp.trans k10
    refine ⟨_, rfl, _, rfl, x, C, dx, fs, rfl, hi, hk, hno _ (by decide +kernel), ⟨_, _, hi⟩, x, .p h, rfl, hA10, fun t2 ht2 => ?_⟩
    have ht2 : H10 t2 = some (.tup (h.ws.map V.int)) := ht2
    have hhl := P.ok.len
    have hpart2 : ∀ r1 ∈ rs, 0 < turnF (dot h.ws (r1.1 ++ [1])) r1.2 := fun r1 hr1 => by
      have := (hright r1 hr1).2.1
      rw [turn_two (hO.sid r1 hr1)] at this
      have e : h.prod r1.1 = dot h.ws (r1.1 ++ [1]) := rfl
      rw [e] at this
      omega
    have hparted2 : ((gaps h.ws rs).all fun n => decide (0 < n)) = true := by
      rw [List.all_eq_true]
      intro z hz
      unfold gaps at hz
      obtain ⟨r1, hr1, rfl⟩ := List.mem_map.mp hz
      exact decide_eq_true (hpart2 r1 hr1)
    refine ⟨_, rfl, rr, t2, as, m, rs, h.ws, mg, rfl, SqL.of (kp10.lst hRR8), kp10.rows hRs8, hO, SqT.of ht2, by rw [hhl, P.ema]; omega, fun w hw => by have := P.ok.low w hw; omega, hg0, by omega, fun z => (by rw [hparted2] at z; cases z), fun z => absurd z hne, fun _ _ z3 H11 s11 hz5 hz6 => ?_⟩
    have hz3p : 0 < z3 := of_decide_eq_true (List.all_eq_true.mp hparted2 z3 hz5)
    have hb2 := P.bound hO hg0 (by rw [hhl, P.ema]) hz3p hz6
    refine ⟨_, rfl, rb, _, rfl, .inl (SqL.of (s11 _ _ (k10.lst hRb))), _, _, rfl, rfl, ?_⟩
    have e : decide (bndF rs h.ws mg z3 ≥ ((numsV bk).length : Int)) = true := decide_eq_true (by rw [List.length_map]; omega)
    show Q (.bl (decide (bndF rs h.ws mg z3 ≥ ((numsV bk).length : Int)))) H11
    rw [e]
    exact q _
  · obtain ⟨h, rfl, P, he, hl2⟩ := hJ
    have hw : h.wrong r1.1 r1.2 = true := hw
    have P2 := P.step hO (List.mem_of_getElem? hr) hw hkd
    have hbnd := P2.bound hO hg0 hwl hz1p hz2
    have hse : (h.step r1.1 r1.2).err = h.err + 1 := by rw [Hnd.step_err, if_pos hw]
    rw [hBd, hse] at hbnd
    have hbig : 150 < bd := by
      rcases Int.lt_or_le 150 bd with z | z
      · exact z
      · have := hmo1.2.2.2.1 z; omega
    have hmo2 := hmo1.2.2.2.2 hbig
    refine ⟨_, rfl, rfl, _, rfl, ?_⟩
    refine iteT ?_
    refine ⟨_, rfl, _, _, rfl, rfl, _, rfl, ?_⟩
    rw [decide_eq_true (show bd > 150 from hbig)]
    refine iteT ?_
    obtain ⟨C, dx, fs, hi, hk, hno⟩ := hA9.ins
    refine ⟨_, rfl, x, C, dx, fs, rfl, hi, hk, hno _ (by decide +kernel), ⟨_, _, hi⟩, x, .p h, rfl, hA9, rfl, ?_⟩
    have e : decide (V.int ((Gnd.p h).err : Int) = V.int 150) = true := decide_eq_true (by
      show V.int (h.err : Int) = V.int 150
      congr 1
      omega)
    rw [e]
    exact q _
end
end Mw

namespace Mw
open PySem L2
section
variable {P : Program} {w : World} {K : PySem.W.Frag} {mg : Str → Option Value} {base : Heap} {f : Addr} {fd : FuncData} {I : HandI} {cls : Nat → Addr} {ks : List Nat} {np ns tm xp : Addr}
theorem sc_Hand___init__ : FnScope ["self", "many"] ["self", "many"] (defScope (mem 22 0)) := ⟨rfl, rfl, rfl, by decide +kernel, rfl, by decide +kernel, by decide +kernel⟩
theorem ok_Hand___init__ (F : Fun K "__init__" "Hand.__init__" (mem 22 0) f fd) (T : Txt BN mg) (HT : HTx K cls ks) : FnOk P w K mg base (CXE P w) 1 f fd ["self", "many"] (spBI cls ks) := by
  refine F.okX sc_Hand___init__ (fun vs H Q E h => ?_) (fun cdv A outer s H vs Q E hr h => ?_)
  · obtain ⟨x, C, dx, m, rfl, _⟩ := h
    rfl
  obtain ⟨x, C, dx, m, rfl, hX, ⟨k, hk, rfl⟩, h0, h4, q⟩ := h
  refine ⟨_, (pss_cons (ps_fld (pv 0) (pv 1) rfl)
      (pss_cons (ps_fld (pv 0) (pe_op (op_repTK (K := K) rfl) (pe_tup (pa_cons pe_int pa_nil)) (pe_op op_add (pv 1) pe_int)) rfl)
      (pss_one (ps_fld (pv 0) pe_int rfl)))), ?_⟩
  have cl := HT.cl _ hk
  refine ⟨_, rfl, _, rfl, x, cls k, dx, _, rfl, hX, cl, HT.many _ hk, (by show 0 < 1000; decide), ?_⟩
  have k1 : ∀ fs, Kp [x] H (upd H x (.ins (cls k) dx fs)) := fun fs => Kp.refl.upd_ins hX (by simp)
  generalize hfs : putF "many" (V.int m) [] = fs1 at *
  have hl1 : fs1.length = 1 := by rw [← hfs]; rfl
  refine ⟨(by show 1 ≤ sizeLine; decide), fun p hp => ?_⟩
  have s1 := Same.new hp (.tup [.int 0])
  refine ⟨_, rfl, _, _, rfl, rfl, p, (m : Int) + 1, _, rfl, rfl, SqT.of upd_same, by simp, by omega, by omega, (by show 1 ≤ 1000; decide), fun z => absurd z (by omega), fun _ t ht => ?_⟩
  have e0 : (List.replicate ((m : Int) + 1).toNat [V.int 0]).flatten = List.replicate (m + 1) (V.int 0) := by
    have : ((m : Int) + 1).toNat = m + 1 := by omega
    rw [this]; simp
  rw [e0]
  have s2 := s1.trans (Same.new ht (.tup (List.replicate (m + 1) (V.int 0))))
  have htx : t ≠ x := fun z => by rw [z, s1 _ _ upd_same] at ht; cases ht
  refine ⟨_, rfl, x, cls k, dx, fs1, rfl, s2 _ _ upd_same, cl, HT.held _ hk, by omega, ?_⟩
  have hl2 := length_putF "held" (V.ref t) fs1
  refine ⟨_, rfl, x, cls k, dx, _, rfl, upd_same, cl, HT.made _ hk, by omega, ?_⟩
  have hl3 := length_putF "made" (V.int 0) (putF "held" (V.ref t) fs1)
  have k3 : Kp [x] H _ := (k1 fs1).trans (Kp.of s2)
  rw [upd_upd]
  refine q _ (putF "made" (.int 0) (putF "held" (.ref t) fs1)) t (k3.upd_ins (s2 _ _ upd_same) (by simp)) upd_same ⟨?_, ?_, ?_, by omega, fun f hf => ?_⟩ ?_
  · rw [lookup_putF, if_neg (by decide +kernel), lookup_putF, if_neg (by decide +kernel), ← hfs, lookup_putF, if_pos rfl]
  · rw [lookup_putF, if_neg (by decide +kernel), lookup_putF, if_pos rfl]
  · rw [lookup_putF, if_pos rfl]
  · have g : ∀ y : Str, y ∈ (["many", "held", "made"] : List Str) → ¬ f = y := fun y hy z => hf (by rw [z]; exact hy)
    rw [lookup_putF, if_neg (g _ (by decide +kernel)), lookup_putF, if_neg (g _ (by decide +kernel)), ← hfs, lookup_putF, if_neg (g _ (by decide +kernel))]
    rfl
  · rw [upd_ne htx, upd_same]
end
end Mw

namespace Mw
open PySem L2
section
variable {P : Program} {w : World} {K : PySem.W.Frag} {mg : Str → Option Value} {base : Heap} {f : Addr} {fd : FuncData} {I : HandI} {cls : Nat → Addr} {ks : List Nat} {np ns tm xp : Addr}
theorem sc_Hand_tells : FnScope ["self", "point"] ["self", "point"] (defScope (mem 22 1)) := ⟨rfl, rfl, rfl, by decide +kernel, rfl, by decide +kernel, by decide +kernel⟩
theorem ok_Hand_tells (F : Fun K "tells" "Hand.tells" (mem 22 1) f fd) (T : Txt BN mg) (m_look_at : MCal P w K mg base 2 (Kds cls ks) "look_at" ["self", "point"] (spLook K cls ks np)) (m_side_of : MCal P w K mg base 5 (Kds cls ks) "side_of" ["self", "point"] (spSide K cls ks)) : FnOk P w K mg base (CXE P w) 8 f fd ["self", "point"] (spTellsG K cls ks np) := by
  refine F.okX sc_Hand_tells (fun vs H Q E h => ?_) (fun cdv A outer s H vs Q E hr h => ?_)
  · obtain ⟨a, p, g, xs, rfl, _⟩ := h
    rfl
  obtain ⟨a, p, g, xs, rfl, hA, ho, he, hP, hE, q⟩ := h
  refine ⟨_, (pss_cons (ps_expr (pe_methG (pv 0) m_look_at (hr.mono (by decide)) passG_out (pa_cons (pv 1) pa_nil)))
      (pss_one (ps_ret (pe_methG (pv 0) m_side_of (hr.mono (by decide)) passG_out (pa_cons (pv 1) pa_nil))))), ?_⟩
  obtain ⟨dx, fs, t, e, F1, ht⟩ := hA.ex
  have hk : Kds cls ks (cls g.kd) := ⟨_, hA.kin, rfl⟩
  refine ⟨_, rfl, a, _, dx, fs, rfl, e, hk, F1.no _ (by decide +kernel), _, rfl, ⟨_, _, e⟩, a, p, g, xs, rfl, hA, hP, fun n => hE n H (Same.refl _), fun y => ?_⟩
  exact ⟨_, rfl, a, _, dx, fs, rfl, e, hk, F1.no _ (by decide +kernel), _, rfl, ⟨_, _, e⟩, a, p, g, xs, rfl, hA, ho, he, hP, (q y).1, (q y).2⟩
end
end Mw

namespace Mw
open PySem L2
section
variable {P : Program} {w : World} {K : PySem.W.Frag} {mg : Str → Option Value} {base : Heap} {f : Addr} {fd : FuncData} {I : HandI} {cls : Nat → Addr} {ks : List Nat} {np ns tm xp : Addr}
theorem sc_Hand_put : FnScope ["self", "point", "side"] ["self", "point", "side"] (defScope (mem 22 2)) := ⟨rfl, rfl, rfl, by decide +kernel, rfl, by decide +kernel, by decide +kernel⟩
theorem ok_Hand_put (F : Fun K "put" "Hand.put" (mem 22 2) f fd) (T : Txt BN mg) (HT : HTx K cls ks) (m_would_err : MCal P w K mg base 7 (Kds cls ks) "would_err" ["self", "point", "side"] (spWould K cls ks np ns)) (m_mend : MCal P w K mg base 5 (Kds cls ks) "mend" ["self", "point", "side"] (spMd K cls ks)) : FnOk P w K mg base (CXE P w) 8 f fd ["self", "point", "side"] (spPutG K cls ks np ns) := by
  refine F.okX sc_Hand_put (fun vs H Q E h => ?_) (fun cdv A outer s H vs Q E hr h => ?_)
  · obtain ⟨a, p, g, xs, s0, rfl, _⟩ := h
    rfl
  obtain ⟨a, p, g, xs, s0, rfl, hA, ho, he, hP, hE, hE2, q⟩ := h
  refine ⟨_, (pss_cons (ps_if (pt_not (pt_val (pe_methG (pv 0) m_would_err (hr.mono (by decide)) passG_out (pa_cons (pv 1) (pa_cons (pv 2) pa_nil))))) (pss_one (ps_ret pe_bl)) pss_nil)
      (pss_cons (ps_fld (pv 0) (pe_op op_add (pe_fld (pv 0) rfl) pe_int) rfl)
      (pss_cons (ps_expr (pe_methG (pv 0) m_mend (hr.mono (by decide)) passG_out (pa_cons (pv 1) (pa_cons (pv 2) pa_nil))))
      (pss_one (ps_ret pe_bl))))), ?_⟩
  obtain ⟨dx, fs, t, e, F1, ht⟩ := hA.ex
  have hk : Kds cls ks (cls g.kd) := ⟨_, hA.kin, rfl⟩
  refine ⟨_, rfl, a, _, dx, fs, rfl, e, hk, F1.no _ (by decide +kernel), _, rfl, _, rfl, ⟨_, _, e⟩, a, p, g, xs, s0, rfl, hA, ho, he, hP, hE, hE2, fun y hs => ?_⟩
  obtain ⟨hx, q1⟩ := q y hs
  refine ⟨hx, fun H1 s1 => ?_⟩
  refine ⟨_, rfl, ?_⟩
  rw [Gnd.step_eq] at q1
  cases hb : g.wrong xs s0 with
  | false =>
    refine iteT ?_
    have q2 := q1 H1 (Kp.of s1)
    rw [hb, if_neg (by simp)] at q2
    exact q2 (hA.same s1)
  | true =>
    refine iteF ?_
    refine ⟨_, rfl, a, _, dx, fs, _, rfl, s1 _ _ e, HT.cl _ hA.kin, HT.made _ hA.kin, F1.made, _, _, rfl, rfl, _, rfl, a, _, dx, fs, rfl, s1 _ _ e, HT.cl _ hA.kin, HT.made _ hA.kin, by have := F1.few; omega, ?_⟩
    have hA2 := hA.made_set (s1 _ _ e) F1 (ht.map fun _ _ z => s1 _ _ z)
    have kp2 : Kp [a] H (upd H1 a (.ins (cls g.kd) dx (putF "made" (.int (g.err + 1)) fs))) := (Kp.of s1).upd_ins (s1 _ _ e) (by simp)
    have hm2 : (putF "made" (V.int (g.err + 1)) fs).lookup ("mend" : Str) = none := by
      rw [lookup_putF, if_neg (by decide +kernel)]; exact F1.no _ (by decide +kernel)
    refine ⟨_, rfl, a, _, dx, _, rfl, upd_same, hk, hm2, _, rfl, _, rfl, ⟨_, _, upd_same⟩, a, p, g.tick, xs, s0, rfl, hA2, ho.tick, he.tick, kp2.seqT hP, Gnd.tick_pt hx, by rw [Gnd.tick_has]; exact hs, fun H3 k3 hA3 => ?_⟩
    have q2 := q1 H3 (kp2.trans k3)
    rw [hb, if_pos rfl] at q2
    exact q2 hA3
end
end Mw

namespace Mw
open PySem L2
section
variable {P : Program} {w : World} {K : PySem.W.Frag} {mg : Str → Option Value} {base : Heap} {f : Addr} {fd : FuncData} {I : HandI} {cls : Nat → Addr} {ks : List Nat} {np ns tm xp : Addr}
theorem sc_Hand_weights : FnScope ["self"] ["self"] (defScope (mem 22 3)) := ⟨rfl, rfl, rfl, by decide +kernel, rfl, by decide +kernel, by decide +kernel⟩
theorem ok_Hand_weights (F : Fun K "weights" "Hand.weights" (mem 22 3) f fd) (T : Txt BN mg) (HT : HTx K cls ks) : FnOk P w K mg base (CXE P w) 1 f fd ["self"] (spWtsG cls ks) := by
  refine F.okX sc_Hand_weights (fun vs H Q E h => ?_) (fun cdv A outer s H vs Q E hr h => ?_)
  · obtain ⟨a, g, rfl, _⟩ := h
    rfl
  obtain ⟨a, g, rfl, hA, q⟩ := h
  refine ⟨_, (pss_one (ps_ret (pe_fld (pv 0) rfl))), ?_⟩
  obtain ⟨dx, fs, t, e, F1, ht⟩ := hA.ex
  exact ⟨_, rfl, a, _, dx, fs, _, rfl, e, HT.cl _ hA.kin, HT.held _ hA.kin, F1.held, q t ht⟩
end
end Mw

namespace Mw
open PySem L2
section
variable {P : Program} {w : World} {K : PySem.W.Frag} {mg : Str → Option Value} {base : Heap} {f : Addr} {fd : FuncData} {I : HandI} {cls : Nat → Addr} {ks : List Nat} {np ns tm xp : Addr}
theorem sc_Hand_mistakes : FnScope ["self"] ["self"] (defScope (mem 22 4)) := ⟨rfl, rfl, rfl, by decide +kernel, rfl, by decide +kernel, by decide +kernel⟩
theorem ok_Hand_mistakes (F : Fun K "mistakes" "Hand.mistakes" (mem 22 4) f fd) (T : Txt BN mg) (HT : HTx K cls ks) : FnOk P w K mg base (CXE P w) 1 f fd ["self"] (spErrG cls ks) := by
  refine F.okX sc_Hand_mistakes (fun vs H Q E h => ?_) (fun cdv A outer s H vs Q E hr h => ?_)
  · obtain ⟨a, g, rfl, _⟩ := h
    rfl
  obtain ⟨a, g, rfl, hA, q⟩ := h
  refine ⟨_, (pss_one (ps_ret (pe_fld (pv 0) rfl))), ?_⟩
  obtain ⟨dx, fs, t, e, F1, ht⟩ := hA.ex
  exact ⟨_, rfl, a, _, dx, fs, _, rfl, e, HT.cl _ hA.kin, HT.made _ hA.kin, F1.made, q⟩
end
end Mw

namespace Mw
open PySem L2
section
variable {P : Program} {w : World} {K : PySem.W.Frag} {mg : Str → Option Value} {base : Heap} {f : Addr} {fd : FuncData} {I : HandI} {cls : Nat → Addr} {ks : List Nat} {np ns tm xp : Addr}
theorem sc_Hand_would_err : FnScope ["self", "point", "side"] ["self", "point", "side"] (defScope (mem 22 5)) := ⟨rfl, rfl, rfl, by decide +kernel, rfl, by decide +kernel, by decide +kernel⟩
theorem ok_Hand_would_err (F : Fun K "would_err" "Hand.would_err" (mem 22 5) f fd) (T : Txt BN mg) (X_NoSide : ExR K mg "NoSide" ns) (m_look_at : MCal P w K mg base 2 (Kds cls ks) "look_at" ["self", "point"] (spLook K cls ks np)) (m_has_side : MCal P w K mg base 2 (Kds cls ks) "has_side" ["self", "side"] (spHas cls ks)) (m_is_mistake : MCal P w K mg base 6 (Kds cls ks) "is_mistake" ["self", "point", "side"] (spIM K cls ks)) : FnOk P w K mg base (CXE P w) 7 f fd ["self", "point", "side"] (spWould K cls ks np ns) := by
  refine F.okX sc_Hand_would_err (fun vs H Q E h => ?_) (fun cdv A outer s H vs Q E hr h => ?_)
  · obtain ⟨a, p, g, xs, s0, rfl, _⟩ := h
    rfl
  obtain ⟨a, p, g, xs, s0, rfl, hA, ho, he, hP, hE, hE2, q⟩ := h
  refine ⟨_, (pss_cons (ps_expr (pe_methG (pv 0) m_look_at (hr.mono (by decide)) passG_out (pa_cons (pv 1) pa_nil)))
      (pss_cons (ps_if (pt_not (pt_val (pe_methG (pv 0) m_has_side (hr.mono (by decide)) passG_out (pa_cons (pv 2) pa_nil)))) (pss_one (ps_raise rfl X_NoSide.c rfl X_NoSide.g raiseG_out (pa_cons (pe_fstr (pv 2) (by decide)) pa_nil))) pss_nil)
      (pss_one (ps_ret (pe_methG (pv 0) m_is_mistake (hr.mono (by decide)) passG_out (pa_cons (pv 1) (pa_cons (pv 2) pa_nil))))))), ?_⟩
  obtain ⟨dx, fs, t, e, F1, ht⟩ := hA.ex
  have hk : Kds cls ks (cls g.kd) := ⟨_, hA.kin, rfl⟩
  refine ⟨_, rfl, a, _, dx, fs, rfl, e, hk, F1.no _ (by decide +kernel), _, rfl, ⟨_, _, e⟩, a, p, g, xs, rfl, hA, hP, fun n => hE n H (Same.refl _), fun y => ?_⟩
  refine ⟨_, rfl, a, _, dx, fs, rfl, e, hk, F1.no _ (by decide +kernel), _, rfl, ⟨_, _, e⟩, a, g, s0, rfl, hA, fun H1 s1 => ?_⟩
  refine ⟨_, rfl, ?_⟩
  cases hb : g.has s0 with
  | false =>
    obtain ⟨b1, b2⟩ := hE2 y hb
    refine iteT ?_
    exact ⟨_, rfl, _, rfl, b1, fun z => ⟨(by show 1 ≤ sizeLine; decide), b2 H1 s1⟩⟩
  | true =>
    obtain ⟨hx, q1⟩ := q y hb
    refine iteF ?_
    exact ⟨_, rfl, a, _, dx, fs, rfl, s1 _ _ e, hk, F1.no _ (by decide +kernel), _, rfl, _, rfl, ⟨_, _, s1 _ _ e⟩, a, p, g, xs, s0, rfl, hA.same s1, ho, he, s1.seqT hP, hx, hb, fun H2 s2 => q1 H2 (s1.trans s2)⟩
end
end Mw

namespace Mw
open PySem L2
section
variable {P : Program} {w : World} {K : PySem.W.Frag} {mg : Str → Option Value} {base : Heap} {f : Addr} {fd : FuncData} {I : HandI} {cls : Nat → Addr} {ks : List Nat} {np ns tm xp : Addr}
theorem sc_Hand_look_at : FnScope ["self", "point"] ["self", "point"] (defScope (mem 22 6)) := ⟨rfl, rfl, rfl, by decide +kernel, rfl, by decide +kernel, by decide +kernel⟩
theorem ok_Hand_look_at (F : Fun K "look_at" "Hand.look_at" (mem 22 6) f fd) (T : Txt BN mg) (HT : HTx K cls ks) (X_NoPoint : ExR K mg "NoPoint" np) : FnOk P w K mg base (CXE P w) 1 f fd ["self", "point"] (spLook K cls ks np) := by
  refine F.okX sc_Hand_look_at (fun vs H Q E h => ?_) (fun cdv A outer s H vs Q E hr h => ?_)
  · obtain ⟨a, p, g, xs, rfl, _⟩ := h
    rfl
  obtain ⟨a, p, g, xs, rfl, hA, hP, hE, q⟩ := h
  refine ⟨_, (pss_one (ps_if (pt_cmpR op_ne (pe_callB (call_lenK (K := K) rfl) rfl (T.nb "len" (by decide)) (by decide +kernel) (pa_cons (pv 1) pa_nil)) (pe_fld (pv 0) rfl) (nomark _)) (pss_one (ps_raise rfl X_NoPoint.c rfl X_NoPoint.g raiseG_out (pa_cons pe_str pa_nil))) pss_nil)), ?_⟩
  obtain ⟨dx, fs, t, e, F1, ht⟩ := hA.ex
  refine ⟨_, rfl, p, _, rfl, .inr hP, _, rfl, a, _, dx, fs, _, rfl, e, HT.cl _ hA.kin, HT.many _ hA.kin, F1.many, rfl, _, rfl, ?_⟩
  refine iteND (fun n => ?_) (fun y => ?_)
  · exact ⟨(by show 1 ≤ sizeLine; decide), hE (fun z => n (by rw [List.length_map, z]))⟩
  · rw [List.length_map] at y
    have y2 : (xs.length : Int) = g.many := by simpa using y
    exact q (by omega)
end
end Mw

namespace Mw
open PySem L2
section
variable {P : Program} {w : World} {K : PySem.W.Frag} {mg : Str → Option Value} {base : Heap} {f : Addr} {fd : FuncData} {I : HandI} {cls : Nat → Addr} {ks : List Nat} {np ns tm xp : Addr}
theorem sc_Hand_has_side : FnScope ["self", "side"] ["self", "side"] (defScope (mem 22 7)) := ⟨rfl, rfl, rfl, by decide +kernel, rfl, by decide +kernel, by decide +kernel⟩
theorem ok_Hand_has_side (F : Fun K "has_side" "Hand.has_side" (mem 22 7) f fd) (T : Txt BN mg) : FnOk P w K mg base (CXE P w) 1 f fd ["self", "side"] (fun vs H Q E => spHas cls ks vs H Q E ∧ ∀ a g us, vs = .ref a :: us → GAt cls ks H a g → g.kd ≠ 4) := by
  refine F.okX sc_Hand_has_side (fun vs H Q E h => ?_) (fun cdv A outer s H vs Q E hr h => ?_)
  · obtain ⟨⟨a, g, s0, rfl, _⟩, _⟩ := h
    rfl
  obtain ⟨⟨a, g, s0, rfl, hA, q⟩, hn⟩ := h
  refine ⟨_, (pss_one (ps_ret (pe_cmpR (op_inK (K := K) rfl) (pv 1) (pe_tup (pa_cons pe_int (pa_cons pe_int pa_nil))) (by with_unfolding_all rfl)))), ?_⟩
  have h4 := hn a g _ rfl hA
  refine ⟨_, rfl, (by show 2 ≤ sizeLine; decide), fun p hp => ⟨p, _, rfl, .inr (SqT.of upd_same), rfl, rfl, ?_⟩⟩
  have q1 := q _ (Same.new hp (.tup [.int 0, .int 1]))
  have e1 : g.has s0 = decide (s0 = 0 ∨ s0 = 1) := by
    cases g with
    | p h => rfl
    | v h => rfl
    | s h => exact absurd rfl h4
  have e2 : inV (.int s0) [.int 0, .int 1] = decide (s0 = 0 ∨ s0 = 1) := by
    by_cases h0 : s0 = 0
    · subst h0; rfl
    · by_cases h1 : s0 = 1
      · subst h1; rfl
      · rw [decide_eq_false (by omega)]
        simp [inV, eqV]
        omega
  rw [e1, ← e2] at q1
  exact q1
end
end Mw

namespace Mw
open PySem L2
section
variable {P : Program} {w : World} {K : PySem.W.Frag} {mg : Str → Option Value} {base : Heap} {f : Addr} {fd : FuncData} {I : HandI} {cls : Nat → Addr} {ks : List Nat} {np ns tm xp : Addr}
theorem sc_Hand_side_of : FnScope ["self", "point", "told"] ["self", "point"] (defScope (mem 22 8)) := ⟨rfl, rfl, rfl, by decide +kernel, rfl, by decide +kernel, by decide +kernel⟩
theorem ok_Hand_side_of (F : Fun K "side_of" "Hand.side_of" (mem 22 8) f fd) (T : Txt BN mg) (HT : HTx K cls ks) (c_told_by : Cal P w K mg base 2 "told_by" ["weights", "point"] (spTold K)) : FnOk P w K mg base (CXE P w) 3 f fd ["self", "point"] (fun vs H Q E => spSide K cls ks vs H Q E ∧ ∀ a g us, vs = .ref a :: us → GAt cls ks H a g → g.kd < 3) := by
  refine F.okX sc_Hand_side_of (fun vs H Q E h => ?_) (fun cdv A outer s H vs Q E hr h => ?_)
  · obtain ⟨⟨a, p, g, xs, rfl, _⟩, _⟩ := h
    rfl
  obtain ⟨⟨a, p, g, xs, rfl, hA, ho, he, hP, hx, q⟩, hn⟩ := h
  refine ⟨_, (pss_cons (ps_set (i := 2) sc_Hand_side_of.nd rfl (Or.inl rfl) (pe_cal c_told_by (hr.mono (by decide)) rfl (pa_cons (pe_fld (pv 0) rfl) (pa_cons (pv 1) pa_nil))))
      (pss_cons (ps_if (pt_cmpR op_eq (pv 2) pe_int (nomark _)) (pss_one (ps_ret pe_non)) pss_nil)
      (pss_one (ps_ret (pe_ifExp (pt_cmpR op_gt (pv 2) pe_int (nomark _)) pe_int pe_int))))), ?_⟩
  have hk3 := hn a g _ rfl hA
  obtain ⟨dx, fs, t, e, F1, ht⟩ := hA.ex
  cases g with
  | v h => exact absurd (show 3 < 3 from hk3) (by decide)
  | s h => exact absurd (show 4 < 3 from hk3) (by decide)
  | p h =>
  have hx : h.PtOk xs := hx
  have ho : h.Ok := ho
  have he : h.err ≤ errTop := he
  have hl := hx.len
  have hp := ho.pos
  have hf := ho.few
  have hw := ho.len
  refine ⟨_, rfl, a, _, dx, fs, _, rfl, e, HT.cl _ hA.kin, HT.held _ hA.kin, F1.held, _, rfl, t, p, true, h.ws, xs, rfl, SqT.of ht, hP, (fun z => by rw [z] at hl; simp at hl; omega), by omega, by omega, Hnd.bits ho he, Hnd.ptbits hx, fun H1 s1 => ?_⟩
  have q1 : Q (guessV (h.prod xs)) H1 := q H1 s1
  have ez : dot h.ws (xs ++ [1]) = h.prod xs := rfl
  rw [ez]
  generalize h.prod xs = z at *
  refine ⟨_, rfl, rfl, _, rfl, ?_⟩
  refine iteD (fun n => ?_) (fun n => ?_)
  · have : z = 0 := by simpa using n
    subst this
    exact q1
  · have n0 : ¬ z = 0 := by simpa using n
    unfold guessV at q1
    rw [if_neg n0] at q1
    refine ⟨_, rfl, _, _, rfl, rfl, _, rfl, ?_⟩
    refine iteD (fun n => ?_) (fun n => ?_)
    · rw [if_pos n] at q1; exact q1
    · rw [if_neg n] at q1; exact q1
end
end Mw

namespace Mw
open PySem L2
section
variable {P : Program} {w : World} {K : PySem.W.Frag} {mg : Str → Option Value} {base : Heap} {f : Addr} {fd : FuncData} {I : HandI} {cls : Nat → Addr} {ks : List Nat} {np ns tm xp : Addr}
theorem sc_Hand_is_mistake : FnScope ["self", "point", "side"] ["self", "point", "side"] (defScope (mem 22 9)) := ⟨rfl, rfl, rfl, by decide +kernel, rfl, by decide +kernel, by decide +kernel⟩
theorem ok_Hand_is_mistake (F : Fun K "is_mistake" "Hand.is_mistake" (mem 22 9) f fd) (T : Txt BN mg) (m_side_of : MCal P w K mg base 5 (Kds cls ks) "side_of" ["self", "point"] (spSide K cls ks)) : FnOk P w K mg base (CXE P w) 6 f fd ["self", "point", "side"] (fun vs H Q E => spIM K cls ks vs H Q E ∧ ∀ a g us, vs = .ref a :: us → GAt cls ks H a g → g.kd ≠ 2) := by
  refine F.okX sc_Hand_is_mistake (fun vs H Q E h => ?_) (fun cdv A outer s H vs Q E hr h => ?_)
  · obtain ⟨⟨a, p, g, xs, s0, rfl, _⟩, _⟩ := h
    rfl
  obtain ⟨⟨a, p, g, xs, s0, rfl, hA, ho, he, hP, hx, hs, q⟩, hn⟩ := h
  refine ⟨_, (pss_one (ps_ret (pe_cmpR op_ne (pe_methG (pv 0) m_side_of (hr.mono (by decide)) passG_out (pa_cons (pv 1) pa_nil)) (pv 2) (nomark _)))), ?_⟩
  obtain ⟨dx, fs, t, e, F1, ht⟩ := hA.ex
  have h2 := hn a g _ rfl hA
  refine ⟨_, rfl, a, _, dx, fs, rfl, e, ⟨_, hA.kin, rfl⟩, F1.no _ (by decide +kernel), _, rfl, ⟨_, _, e⟩, a, p, g, xs, rfl, hA, ho, he, hP, hx, fun H' s' => ?_⟩
  refine ⟨_, rfl, g.guess_scal xs s0, ?_⟩
  have q1 := q H' s'
  rw [Gnd.wrong_eq h2 hs, decide_not] at q1
  exact q1
end
end Mw

namespace Mw
open PySem L2
section
variable {P : Program} {w : World} {K : PySem.W.Frag} {mg : Str → Option Value} {base : Heap} {f : Addr} {fd : FuncData} {I : HandI} {cls : Nat → Addr} {ks : List Nat} {np ns tm xp : Addr}
theorem sc_Hand_mend : FnScope ["self", "point", "side"] ["self", "point", "side"] (defScope (mem 22 10)) := ⟨rfl, rfl, rfl, by decide +kernel, rfl, by decide +kernel, by decide +kernel⟩
theorem ok_Hand_mend (F : Fun K "mend" "Hand.mend" (mem 22 10) f fd) (T : Txt BN mg) : FnOk P w K mg base (CXE P w) 1 f fd ["self", "point", "side"] (fun vs H Q E => spMd K cls ks vs H Q E ∧ ∀ a g us, vs = .ref a :: us → GAt cls ks H a g → g.kd = 0) := by
  refine F.okX sc_Hand_mend (fun vs H Q E h => ?_) (fun cdv A outer s H vs Q E hr h => ?_)
  · obtain ⟨⟨a, p, g, xs, s0, rfl, _⟩, _⟩ := h
    rfl
  obtain ⟨⟨a, p, g, xs, s0, rfl, hA, ho, he, hP, hx, hs, q⟩, hn⟩ := h
  refine ⟨_, (pss_one ps_pass), ?_⟩
  have h0 := hn a g _ rfl hA
  have e : g.mended xs s0 = g := by
    cases g with
    | p h => show Gnd.p { h with ws := if h.kd = 0 then h.ws else _ } = _
             rw [if_pos (show h.kd = 0 from h0)]
    | v h => cases h0
    | s h => cases h0
  rw [e] at q
  exact q H Kp.refl hA
end
end Mw

namespace Mw
open PySem L2
section
variable {P : Program} {w : World} {K : PySem.W.Frag} {mg : Str → Option Value} {base : Heap} {f : Addr} {fd : FuncData} {I : HandI} {cls : Nat → Addr} {ks : List Nat} {np ns tm xp : Addr}
theorem sc_PlainHand_mend : FnScope ["self", "point", "side"] ["self", "point", "side"] (defScope (mem 23 0)) := ⟨rfl, rfl, rfl, by decide +kernel, rfl, by decide +kernel, by decide +kernel⟩
theorem ok_PlainHand_mend (F : Fun K "mend" "PlainHand.mend" (mem 23 0) f fd) (T : Txt BN mg) (HT : HTx K cls ks) (c_moved : Cal P w K mg base 2 "moved" ["weights", "point", "times"] (spMv K)) (c_turned : Cal P w K mg base 1 "turned" ["number", "side"] spTurned) : FnOk P w K mg base (CXE P w) 3 f fd ["self", "point", "side"] (fun vs H Q E => spMd K cls ks vs H Q E ∧ ∀ a g us, vs = .ref a :: us → GAt cls ks H a g → g.kd = 1 ∨ g.kd = 2) := by
  refine F.okX sc_PlainHand_mend (fun vs H Q E h => ?_) (fun cdv A outer s H vs Q E hr h => ?_)
  · obtain ⟨⟨a, p, g, xs, s0, rfl, _⟩, _⟩ := h
    rfl
  obtain ⟨⟨a, p, g, xs, s0, rfl, hA, ho, he, hP, hx, hs, q⟩, hn⟩ := h
  refine ⟨_, (pss_one (ps_fld (pv 0) (pe_cal c_moved (hr.mono (by decide)) rfl (pa_cons (pe_fld (pv 0) rfl) (pa_cons (pv 1) (pa_cons (pe_cal c_turned (hr.mono (by decide)) rfl (pa_cons pe_int (pa_cons (pv 2) pa_nil))) pa_nil)))) rfl)), ?_⟩
  have hk := hn a g _ rfl hA
  obtain ⟨dx, fs, t, e, F1, ht⟩ := hA.ex
  cases g with
  | v h => exact absurd (show 3 = 1 ∨ 3 = 2 from hk) (by decide)
  | s h => exact absurd (show 4 = 1 ∨ 4 = 2 from hk) (by decide)
  | p h =>
  have hk : h.kd = 1 ∨ h.kd = 2 := hk
  have hx : h.PtOk xs := hx
  have ho : h.Ok := ho
  have hs : s0 = 0 ∨ s0 = 1 := of_decide_eq_true hs
  have hl := hx.len
  have hp := ho.pos
  have hf := ho.few
  have hw := ho.len
  have ht : H t = some (.tup (h.ws.map V.int)) := ht
  refine ⟨_, rfl, a, _, dx, fs, _, rfl, e, HT.cl _ hA.kin, HT.held _ hA.kin, F1.held, _, rfl, _, rfl, 1, s0, rfl, t, p, h.ws, xs, turnF 1 s0, rfl, SqT.of ht, hP, (fun z => by rw [z] at hl; simp at hl; omega), by omega, by omega, ?_, hx.low, fun r H' s' hr0 hR => ?_⟩
  · rcases hs with rfl | rfl
    · exact .inr rfl
    · exact .inl rfl
  have em : mv (turnF 1 s0) h.ws (xs ++ [1]) = Hnd.mend h.ws xs s0 := by
    have e1 : turnF 1 s0 = 2 * s0 - 1 := by rcases hs with rfl | rfl <;> rfl
    rw [e1]; rfl
  refine ⟨_, rfl, a, _, dx, fs, rfl, s' _ _ e, HT.cl _ hA.kin, HT.held _ hA.kin, by have := F1.few; omega, ?_⟩
  refine q _ ((Kp.of s').upd_ins (s' _ _ e) (by simp)) (hA.held_set (s' _ _ e) F1 xs s0 ?_)
  show H' r = some (.tup ((if h.kd = 0 then h.ws else Hnd.mend h.ws xs s0).map V.int))
  rw [if_neg (by omega), hR, em]
end
end Mw

namespace Mw
open PySem L2
section
variable {P : Program} {w : World} {K : PySem.W.Frag} {mg : Str → Option Value} {base : Heap} {f : Addr} {fd : FuncData} {I : HandI} {cls : Nat → Addr} {ks : List Nat} {np ns tm xp : Addr}
theorem sc_MarginHand___init__ : FnScope ["self", "many", "margin"] ["self", "many", "margin"] (defScope (mem 24 0)) := ⟨rfl, rfl, rfl, by decide +kernel, rfl, by decide +kernel, by decide +kernel⟩
theorem ok_MarginHand___init__ (F : Fun K "__init__" "MarginHand.__init__" (mem 24 0) f fd) (T : Txt BN mg) (HT : HTx K cls ks) (b_PlainHand___init__ : BCal P w K mg base 2 "PlainHand" "__init__" ["self", "many"] (spBI cls ks)) : FnOk P w K mg base (CXE P w) 3 f fd ["self", "many", "margin"] (fun vs H Q E => 2 ∈ ks ∧ SpInit (cls 2) (spNew (hI cls ks) 2) vs H Q E) := by
  refine F.okX sc_MarginHand___init__ (fun vs H Q E h => ?_) (fun cdv A outer s H vs Q E hr h => ?_)
  · obtain ⟨_, x, dx, us, H1, rfl, _, _, _, _, m, g, rfl, _⟩ := h
    rfl
  obtain ⟨hk2, x, dx, us, H1, rfl, hx, hd, hn, rfl, m, g, rfl, h0, h4, q⟩ := h
  refine ⟨_, (pss_cons (ps_expr (pe_baseG b_PlainHand___init__ (hr.mono (by decide)) rfl passG_out (pa_cons (pv 0) (pa_cons (pv 1) pa_nil))))
      (pss_one (ps_fld (pv 0) (pv 2) rfl))), ?_⟩
  refine ⟨_, rfl, _, rfl, x, cls 2, dx, m, rfl, upd_same, ⟨2, hk2, rfl⟩, h0, by omega, fun H2 fs t kp hX2 F1 ht => ?_⟩
  have hf := F1.few
  refine ⟨_, rfl, _, rfl, x, cls 2, dx, fs, rfl, hX2, HT.cl _ hk2, HT.margin hk2, by omega, ?_⟩
  have htx : t ≠ x := fun z => by rw [z, hX2] at ht; cases ht
  have sm : Same H1 (upd H2 x (.ins (cls 2) dx (putF "margin" (.int g) fs))) := fun b o hb => by
    have bx : b ≠ x := ne_of_none hb hx
    have bd : b ≠ dx := ne_of_none hb hd
    rw [upd_ne bx]
    exact kp.but b o (by simp; exact bx) (by rw [upd_ne bx, upd_ne bd]; exact hb)
  refine q x _ sm hx ⟨⟨dx, putF "margin" (.int g) fs, t, upd_same, ⟨?_, ?_, ?_, ?_, ?_, ?_, ?_⟩, ?_⟩, hk2, fun h e => by cases e; show 2 < 3; decide⟩ rfl
  · rw [lookup_putF, if_neg (by decide +kernel)]; exact F1.many
  · rw [lookup_putF, if_neg (by decide +kernel)]; exact F1.held
  · rw [lookup_putF, if_neg (by decide +kernel)]; exact F1.made
  · intro h e z; cases e; rw [lookup_putF, if_pos rfl]; rfl
  · intro h e; cases e
  · have := length_putF "margin" (V.int g) fs; omega
  · intro f hf2
    have g1 : ∀ y : Str, y ∈ fldNames → ¬ f = y := fun y hy z => hf2 (by rw [z]; exact hy)
    rw [lookup_putF, if_neg (g1 _ (by decide +kernel))]
    refine F1.no f fun z => hf2 ?_
    simp only [List.mem_cons, List.not_mem_nil, or_false] at z ⊢
    rcases z with z | z | z <;> simp [z]
  · show upd H2 x _ t = some (.tup ((Hnd.new 2 g m).ws.map V.int))
    rw [upd_ne htx, ht]; unfold Hnd.new; simp
end
end Mw

namespace Mw
open PySem L2
section
variable {P : Program} {w : World} {K : PySem.W.Frag} {mg : Str → Option Value} {base : Heap} {f : Addr} {fd : FuncData} {I : HandI} {cls : Nat → Addr} {ks : List Nat} {np ns tm xp : Addr}
theorem sc_MarginHand_is_mistake : FnScope ["self", "point", "side"] ["self", "point", "side"] (defScope (mem 24 1)) := ⟨rfl, rfl, rfl, by decide +kernel, rfl, by decide +kernel, by decide +kernel⟩
theorem ok_MarginHand_is_mistake (F : Fun K "is_mistake" "MarginHand.is_mistake" (mem 24 1) f fd) (T : Txt BN mg) (HT : HTx K cls ks) (c_told_by : Cal P w K mg base 2 "told_by" ["weights", "point"] (spTold K)) (c_turned : Cal P w K mg base 1 "turned" ["number", "side"] spTurned) : FnOk P w K mg base (CXE P w) 4 f fd ["self", "point", "side"] (fun vs H Q E => spIM K cls ks vs H Q E ∧ ∀ a g us, vs = .ref a :: us → GAt cls ks H a g → g.kd = 2) := by
  refine F.okX sc_MarginHand_is_mistake (fun vs H Q E h => ?_) (fun cdv A outer s H vs Q E hr h => ?_)
  · obtain ⟨⟨a, p, g, xs, s0, rfl, _⟩, _⟩ := h
    rfl
  obtain ⟨⟨a, p, g, xs, s0, rfl, hA, ho, he, hP, hx, hs, q⟩, hn⟩ := h
  refine ⟨_, (pss_one (ps_ret (pe_cmpR op_le (pe_cal c_turned (hr.mono (by decide)) rfl (pa_cons (pe_cal c_told_by (hr.mono (by decide)) rfl (pa_cons (pe_fld (pv 0) rfl) (pa_cons (pv 1) pa_nil))) (pa_cons (pv 2) pa_nil))) (pe_fld (pv 0) rfl) (nomark _)))), ?_⟩
  have h2 := hn a g _ rfl hA
  have hk2 : (2 : Nat) ∈ ks := by have := hA.kin; rw [h2] at this; exact this
  obtain ⟨dx, fs, t, e, F1, ht⟩ := hA.ex
  cases g with
  | v h => exact absurd (show 3 = 2 from h2) (by decide)
  | s h => exact absurd (show 4 = 2 from h2) (by decide)
  | p h =>
  have h2 : h.kd = 2 := h2
  have hx : h.PtOk xs := hx
  have ho : h.Ok := ho
  have he : h.err ≤ errTop := he
  have hs : s0 = 0 ∨ s0 = 1 := of_decide_eq_true hs
  have hl := hx.len
  have hp := ho.pos
  have hf := ho.few
  have hw := ho.len
  have ht : H t = some (.tup (h.ws.map V.int)) := ht
  have ek : cls (Gnd.kd (.p h)) = cls 2 := by show cls h.kd = _; rw [h2]
  refine ⟨_, rfl, a, _, dx, fs, _, rfl, e, HT.cl _ hA.kin, HT.held _ hA.kin, F1.held, _, rfl, t, p, true, h.ws, xs, rfl, SqT.of ht, hP, (fun z => by rw [z] at hl; simp at hl; omega), by omega, by omega, Hnd.bits ho he, Hnd.ptbits hx, fun H1 s1 => ?_⟩
  have q1 : Q (.bl (h.wrong xs s0)) H1 := q H1 s1
  have ez : dot h.ws (xs ++ [1]) = h.prod xs := rfl
  rw [ez]
  unfold Hnd.wrong at q1
  rw [if_pos h2] at q1
  generalize h.prod xs = z at *
  refine ⟨_, rfl, z, s0, rfl, _, rfl, a, _, dx, fs, _, rfl, s1 _ _ e, HT.cl _ hA.kin, by rw [ek]; exact HT.margin hk2, F1.margin h rfl h2, _, _, rfl, rfl, ?_⟩
  have e1 : turnF z s0 = (2 * s0 - 1) * z := by
    rcases hs with rfl | rfl
    · show -z = _; omega
    · show z = _; omega
  rw [e1]
  exact q1
end
end Mw

namespace Mw
open PySem L2
theorem hands {P : Program} {w : World} {K : PySem.W.Frag} {mg : Str → Option Value} {base : Heap} {C_Hand C_PlainHand C_MarginHand X_NoPoint X_NoSide X_NotParted X_TooMany : Addr} (PR : Prog K mg C_Hand C_PlainHand C_MarginHand X_NoPoint X_NoSide X_NotParted X_TooMany) (T : Txt BN mg) (c_told_by : Cal P w K mg base 2 "told_by" ["weights", "point"] (spTold K)) (c_turned : Cal P w K mg base 1 "turned" ["number", "side"] spTurned) (c_moved : Cal P w K mg base 2 "moved" ["weights", "point", "times"] (spMv K)) :
    MCal P w K mg base 20 (Kds (clsK C_Hand C_PlainHand C_MarginHand C_Hand C_Hand) [1, 2]) "tells" ["self", "point"] (spTellsG K (clsK C_Hand C_PlainHand C_MarginHand C_Hand C_Hand) [1, 2] X_NoPoint)
    ∧ MCal P w K mg base 20 (Kds (clsK C_Hand C_PlainHand C_MarginHand C_Hand C_Hand) [1, 2]) "put" ["self", "point", "side"] (spPutG K (clsK C_Hand C_PlainHand C_MarginHand C_Hand C_Hand) [1, 2] X_NoPoint X_NoSide)
    ∧ MCal P w K mg base 20 (Kds (clsK C_Hand C_PlainHand C_MarginHand C_Hand C_Hand) [1, 2]) "weights" ["self"] (spWtsG (clsK C_Hand C_PlainHand C_MarginHand C_Hand C_Hand) [1, 2])
    ∧ MCal P w K mg base 20 (Kds (clsK C_Hand C_PlainHand C_MarginHand C_Hand C_Hand) [1, 2]) "mistakes" ["self"] (spErrG (clsK C_Hand C_PlainHand C_MarginHand C_Hand C_Hand) [1, 2])
    ∧ MCal P w K mg base 7 (Kds (clsK C_Hand C_PlainHand C_MarginHand C_Hand C_Hand) [1, 2]) "would_err" ["self", "point", "side"] (spWould K (clsK C_Hand C_PlainHand C_MarginHand C_Hand C_Hand) [1, 2] X_NoPoint X_NoSide)
    ∧ HTx K (clsK C_Hand C_PlainHand C_MarginHand C_Hand C_Hand) [1, 2]
    ∧ NCal P w K mg base 20 "PlainHand" ["self", "many"] (spNew (hI (clsK C_Hand C_PlainHand C_MarginHand C_Hand C_Hand) [1, 2]) 1)
    ∧ NCal P w K mg base 20 "MarginHand" ["self", "many", "margin"] (spNew (hI (clsK C_Hand C_PlainHand C_MarginHand C_Hand C_Hand) [1, 2]) 2) := by
  have HT : HTx K (clsK C_Hand C_PlainHand C_MarginHand C_Hand C_Hand) [1, 2] := by
    refine ⟨fun k hk => ?_, fun k hk => ?_, fun k hk => ?_, fun k hk => ?_, fun h => ?_, fun h => ?_, fun k hk l hl e => ?_⟩
    · rcases (show k = 1 ∨ k = 2 from by simpa using hk) with rfl | rfl
      · exact PR.c_PlainHand.cl
      · exact PR.c_MarginHand.cl
    · rcases (show k = 1 ∨ k = 2 from by simpa using hk) with rfl | rfl
      · exact PR.n_PlainHand_many
      · exact PR.n_MarginHand_many
    · rcases (show k = 1 ∨ k = 2 from by simpa using hk) with rfl | rfl
      · exact PR.n_PlainHand_held
      · exact PR.n_MarginHand_held
    · rcases (show k = 1 ∨ k = 2 from by simpa using hk) with rfl | rfl
      · exact PR.n_PlainHand_made
      · exact PR.n_MarginHand_made
    · exact PR.n_MarginHand_margin
    · exact absurd h (by decide)
    · rcases (show k = 1 ∨ k = 2 from by simpa using hk) with rfl | rfl
      · rcases (show l = 1 ∨ l = 2 from by simpa using hl) with rfl | rfl
        · rfl
        · exact absurd e PR.d_PlainHand_MarginHand
      · rcases (show l = 1 ∨ l = 2 from by simpa using hl) with rfl | rfl
        · exact absurd e.symm PR.d_PlainHand_MarginHand
        · rfl
  have m_look_at : MCal P w K mg base 2 (Kds (clsK C_Hand C_PlainHand C_MarginHand C_Hand C_Hand) [1, 2]) "look_at" ["self", "point"] (spLook K (clsK C_Hand C_PlainHand C_MarginHand C_Hand C_Hand) [1, 2] X_NoPoint) := ⟨fun C h => by
    obtain ⟨k, hk, rfl⟩ := (show Kds (clsK C_Hand C_PlainHand C_MarginHand C_Hand C_Hand) [1, 2] C from h)
    rcases (show k = 1 ∨ k = 2 from by simpa using hk) with rfl | rfl
    · exact PR.m_PlainHand_look_at.use PR.c_PlainHand.cl (fun _ _ _ _ _ _ us hl => match us, hl with | [_, _], _ => rfl) fun f fd F => ((ok_Hand_look_at F T HT PR.x_NoPoint).mono (by decide)).imp (fun _ _ _ _ h => h.2)
    · exact PR.m_MarginHand_look_at.use PR.c_MarginHand.cl (fun _ _ _ _ _ _ us hl => match us, hl with | [_, _], _ => rfl) fun f fd F => ((ok_Hand_look_at F T HT PR.x_NoPoint).mono (by decide)).imp (fun _ _ _ _ h => h.2)⟩
  have m_has_side : MCal P w K mg base 2 (Kds (clsK C_Hand C_PlainHand C_MarginHand C_Hand C_Hand) [1, 2]) "has_side" ["self", "side"] (spHas (clsK C_Hand C_PlainHand C_MarginHand C_Hand C_Hand) [1, 2]) := ⟨fun C h => by
    obtain ⟨k, hk, rfl⟩ := (show Kds (clsK C_Hand C_PlainHand C_MarginHand C_Hand C_Hand) [1, 2] C from h)
    rcases (show k = 1 ∨ k = 2 from by simpa using hk) with rfl | rfl
    · exact PR.m_PlainHand_has_side.use PR.c_PlainHand.cl (fun _ _ _ _ _ _ us hl => match us, hl with | [_, _], _ => rfl) fun f fd F => ((ok_Hand_has_side F T ).mono (by decide)).imp (fun vs H Q E h => ⟨h.2, fun a g us e q => by have z := kd_of HT (k := 1) (by decide) h.1 a g us e q; omega⟩)
    · exact PR.m_MarginHand_has_side.use PR.c_MarginHand.cl (fun _ _ _ _ _ _ us hl => match us, hl with | [_, _], _ => rfl) fun f fd F => ((ok_Hand_has_side F T ).mono (by decide)).imp (fun vs H Q E h => ⟨h.2, fun a g us e q => by have z := kd_of HT (k := 2) (by decide) h.1 a g us e q; omega⟩)⟩
  have m_side_of : MCal P w K mg base 5 (Kds (clsK C_Hand C_PlainHand C_MarginHand C_Hand C_Hand) [1, 2]) "side_of" ["self", "point"] (spSide K (clsK C_Hand C_PlainHand C_MarginHand C_Hand C_Hand) [1, 2]) := ⟨fun C h => by
    obtain ⟨k, hk, rfl⟩ := (show Kds (clsK C_Hand C_PlainHand C_MarginHand C_Hand C_Hand) [1, 2] C from h)
    rcases (show k = 1 ∨ k = 2 from by simpa using hk) with rfl | rfl
    · exact PR.m_PlainHand_side_of.use PR.c_PlainHand.cl (fun _ _ _ _ _ _ us hl => match us, hl with | [_, _], _ => rfl) fun f fd F => ((ok_Hand_side_of F T HT c_told_by).mono (by decide)).imp (fun vs H Q E h => ⟨h.2, fun a g us e q => by have z := kd_of HT (k := 1) (by decide) h.1 a g us e q; omega⟩)
    · exact PR.m_MarginHand_side_of.use PR.c_MarginHand.cl (fun _ _ _ _ _ _ us hl => match us, hl with | [_, _], _ => rfl) fun f fd F => ((ok_Hand_side_of F T HT c_told_by).mono (by decide)).imp (fun vs H Q E h => ⟨h.2, fun a g us e q => by have z := kd_of HT (k := 2) (by decide) h.1 a g us e q; omega⟩)⟩
  have m_is_mistake : MCal P w K mg base 6 (Kds (clsK C_Hand C_PlainHand C_MarginHand C_Hand C_Hand) [1, 2]) "is_mistake" ["self", "point", "side"] (spIM K (clsK C_Hand C_PlainHand C_MarginHand C_Hand C_Hand) [1, 2]) := ⟨fun C h => by
    obtain ⟨k, hk, rfl⟩ := (show Kds (clsK C_Hand C_PlainHand C_MarginHand C_Hand C_Hand) [1, 2] C from h)
    rcases (show k = 1 ∨ k = 2 from by simpa using hk) with rfl | rfl
    · exact PR.m_PlainHand_is_mistake.use PR.c_PlainHand.cl (fun _ _ _ _ _ _ us hl => match us, hl with | [_, _, _], _ => rfl) fun f fd F => ((ok_Hand_is_mistake F T m_side_of).mono (by decide)).imp (fun vs H Q E h => ⟨h.2, fun a g us e q => by have z := kd_of HT (k := 1) (by decide) h.1 a g us e q; omega⟩)
    · exact PR.m_MarginHand_is_mistake.use PR.c_MarginHand.cl (fun _ _ _ _ _ _ us hl => match us, hl with | [_, _, _], _ => rfl) fun f fd F => ((ok_MarginHand_is_mistake F T HT c_told_by c_turned).mono (by decide)).imp (fun vs H Q E h => ⟨h.2, fun a g us e q => by have z := kd_of HT (k := 2) (by decide) h.1 a g us e q; omega⟩)⟩
  have m_mend : MCal P w K mg base 5 (Kds (clsK C_Hand C_PlainHand C_MarginHand C_Hand C_Hand) [1, 2]) "mend" ["self", "point", "side"] (spMd K (clsK C_Hand C_PlainHand C_MarginHand C_Hand C_Hand) [1, 2]) := ⟨fun C h => by
    obtain ⟨k, hk, rfl⟩ := (show Kds (clsK C_Hand C_PlainHand C_MarginHand C_Hand C_Hand) [1, 2] C from h)
    rcases (show k = 1 ∨ k = 2 from by simpa using hk) with rfl | rfl
    · exact PR.m_PlainHand_mend.use PR.c_PlainHand.cl (fun _ _ _ _ _ _ us hl => match us, hl with | [_, _, _], _ => rfl) fun f fd F => ((ok_PlainHand_mend F T HT c_moved c_turned).mono (by decide)).imp (fun vs H Q E h => ⟨h.2, fun a g us e q => by have z := kd_of HT (k := 1) (by decide) h.1 a g us e q; omega⟩)
    · exact PR.m_MarginHand_mend.use PR.c_MarginHand.cl (fun _ _ _ _ _ _ us hl => match us, hl with | [_, _, _], _ => rfl) fun f fd F => ((ok_PlainHand_mend F T HT c_moved c_turned).mono (by decide)).imp (fun vs H Q E h => ⟨h.2, fun a g us e q => by have z := kd_of HT (k := 2) (by decide) h.1 a g us e q; omega⟩)⟩
  have m_would_err : MCal P w K mg base 7 (Kds (clsK C_Hand C_PlainHand C_MarginHand C_Hand C_Hand) [1, 2]) "would_err" ["self", "point", "side"] (spWould K (clsK C_Hand C_PlainHand C_MarginHand C_Hand C_Hand) [1, 2] X_NoPoint X_NoSide) := ⟨fun C h => by
    obtain ⟨k, hk, rfl⟩ := (show Kds (clsK C_Hand C_PlainHand C_MarginHand C_Hand C_Hand) [1, 2] C from h)
    rcases (show k = 1 ∨ k = 2 from by simpa using hk) with rfl | rfl
    · exact PR.m_PlainHand_would_err.use PR.c_PlainHand.cl (fun _ _ _ _ _ _ us hl => match us, hl with | [_, _, _], _ => rfl) fun f fd F => ((ok_Hand_would_err F T PR.x_NoSide m_look_at m_has_side m_is_mistake).mono (by decide)).imp (fun _ _ _ _ h => h.2)
    · exact PR.m_MarginHand_would_err.use PR.c_MarginHand.cl (fun _ _ _ _ _ _ us hl => match us, hl with | [_, _, _], _ => rfl) fun f fd F => ((ok_Hand_would_err F T PR.x_NoSide m_look_at m_has_side m_is_mistake).mono (by decide)).imp (fun _ _ _ _ h => h.2)⟩
  have m_tells : MCal P w K mg base 20 (Kds (clsK C_Hand C_PlainHand C_MarginHand C_Hand C_Hand) [1, 2]) "tells" ["self", "point"] (spTellsG K (clsK C_Hand C_PlainHand C_MarginHand C_Hand C_Hand) [1, 2] X_NoPoint) := ⟨fun C h => by
    obtain ⟨k, hk, rfl⟩ := (show Kds (clsK C_Hand C_PlainHand C_MarginHand C_Hand C_Hand) [1, 2] C from h)
    rcases (show k = 1 ∨ k = 2 from by simpa using hk) with rfl | rfl
    · exact PR.m_PlainHand_tells.use PR.c_PlainHand.cl (fun _ _ _ _ _ _ us hl => match us, hl with | [_, _], _ => rfl) fun f fd F => ((ok_Hand_tells F T m_look_at m_side_of).mono (by decide)).imp (fun _ _ _ _ h => h.2)
    · exact PR.m_MarginHand_tells.use PR.c_MarginHand.cl (fun _ _ _ _ _ _ us hl => match us, hl with | [_, _], _ => rfl) fun f fd F => ((ok_Hand_tells F T m_look_at m_side_of).mono (by decide)).imp (fun _ _ _ _ h => h.2)⟩
  have m_put : MCal P w K mg base 20 (Kds (clsK C_Hand C_PlainHand C_MarginHand C_Hand C_Hand) [1, 2]) "put" ["self", "point", "side"] (spPutG K (clsK C_Hand C_PlainHand C_MarginHand C_Hand C_Hand) [1, 2] X_NoPoint X_NoSide) := ⟨fun C h => by
    obtain ⟨k, hk, rfl⟩ := (show Kds (clsK C_Hand C_PlainHand C_MarginHand C_Hand C_Hand) [1, 2] C from h)
    rcases (show k = 1 ∨ k = 2 from by simpa using hk) with rfl | rfl
    · exact PR.m_PlainHand_put.use PR.c_PlainHand.cl (fun _ _ _ _ _ _ us hl => match us, hl with | [_, _, _], _ => rfl) fun f fd F => ((ok_Hand_put F T HT m_would_err m_mend).mono (by decide)).imp (fun _ _ _ _ h => h.2)
    · exact PR.m_MarginHand_put.use PR.c_MarginHand.cl (fun _ _ _ _ _ _ us hl => match us, hl with | [_, _, _], _ => rfl) fun f fd F => ((ok_Hand_put F T HT m_would_err m_mend).mono (by decide)).imp (fun _ _ _ _ h => h.2)⟩
  have m_weights : MCal P w K mg base 20 (Kds (clsK C_Hand C_PlainHand C_MarginHand C_Hand C_Hand) [1, 2]) "weights" ["self"] (spWtsG (clsK C_Hand C_PlainHand C_MarginHand C_Hand C_Hand) [1, 2]) := ⟨fun C h => by
    obtain ⟨k, hk, rfl⟩ := (show Kds (clsK C_Hand C_PlainHand C_MarginHand C_Hand C_Hand) [1, 2] C from h)
    rcases (show k = 1 ∨ k = 2 from by simpa using hk) with rfl | rfl
    · exact PR.m_PlainHand_weights.use PR.c_PlainHand.cl (fun _ _ _ _ _ _ us hl => match us, hl with | [_], _ => rfl) fun f fd F => ((ok_Hand_weights F T HT).mono (by decide)).imp (fun _ _ _ _ h => h.2)
    · exact PR.m_MarginHand_weights.use PR.c_MarginHand.cl (fun _ _ _ _ _ _ us hl => match us, hl with | [_], _ => rfl) fun f fd F => ((ok_Hand_weights F T HT).mono (by decide)).imp (fun _ _ _ _ h => h.2)⟩
  have m_mistakes : MCal P w K mg base 20 (Kds (clsK C_Hand C_PlainHand C_MarginHand C_Hand C_Hand) [1, 2]) "mistakes" ["self"] (spErrG (clsK C_Hand C_PlainHand C_MarginHand C_Hand C_Hand) [1, 2]) := ⟨fun C h => by
    obtain ⟨k, hk, rfl⟩ := (show Kds (clsK C_Hand C_PlainHand C_MarginHand C_Hand C_Hand) [1, 2] C from h)
    rcases (show k = 1 ∨ k = 2 from by simpa using hk) with rfl | rfl
    · exact PR.m_PlainHand_mistakes.use PR.c_PlainHand.cl (fun _ _ _ _ _ _ us hl => match us, hl with | [_], _ => rfl) fun f fd F => ((ok_Hand_mistakes F T HT).mono (by decide)).imp (fun _ _ _ _ h => h.2)
    · exact PR.m_MarginHand_mistakes.use PR.c_MarginHand.cl (fun _ _ _ _ _ _ us hl => match us, hl with | [_], _ => rfl) fun f fd F => ((ok_Hand_mistakes F T HT).mono (by decide)).imp (fun _ _ _ _ h => h.2)⟩
  have b_PlainHand___init__ : BCal P w K mg base 2 "PlainHand" "__init__" ["self", "many"] (spBI (clsK C_Hand C_PlainHand C_MarginHand C_Hand C_Hand) [1, 2]) := PR.b_PlainHand___init__.use PR.c_PlainHand.g (fun _ _ _ _ _ _ us hl => match us, hl with | [_, _], _ => rfl) fun f fd F => (ok_Hand___init__ F T HT).mono (by decide)
  have n_PlainHand : NCal P w K mg base 20 "PlainHand" ["self", "many"] (spNew (hI (clsK C_Hand C_PlainHand C_MarginHand C_Hand C_Hand) [1, 2]) 1) := PR.c_PlainHand.new PR.m_PlainHand___init__ (fun _ _ _ _ _ _ us hl => match us, hl with | [_, _], _ => rfl) spNew_mono fun f fd F => ((ok_Hand___init__ F T HT).mono (by decide)).imp (fun vs H Q E h => init_h (kd := 1) rfl (by decide) (by decide) h)
  have n_MarginHand : NCal P w K mg base 20 "MarginHand" ["self", "many", "margin"] (spNew (hI (clsK C_Hand C_PlainHand C_MarginHand C_Hand C_Hand) [1, 2]) 2) := PR.c_MarginHand.new PR.m_MarginHand___init__ (fun _ _ _ _ _ _ us hl => match us, hl with | [_, _, _], _ => rfl) spNew_mono fun f fd F => ((ok_MarginHand___init__ F T HT b_PlainHand___init__).mono (by decide)).imp (fun _ _ _ _ h => ⟨by decide, h⟩)
  exact ⟨m_tells, m_put, m_weights, m_mistakes, m_would_err, HT, n_PlainHand, n_MarginHand⟩
end Mw
open PySem PySem.W PyProof.Rows
set_option maxRecDepth 100000 in
set_option maxHeartbeats 0 in
theorem PySem.Challenge.cw_mendweights_k19_whole_runs_end_holds : PySem.Challenge.rw_mendweights_k19_whole_runs_end.Holds := by
  w_on; o_law; k_head; (case hw => w_witness2)
  k_fill
  refine L2.walkLaw (l := PySem.Challenge.rw_mendweights_k19_whole_runs_end) (k := 26) (x := "_law_script") rfl rfl ⟨rfl, by decide, by decide⟩ (fun w h Y => PySem.W.kIn_of Y) ?F
  case F =>
    intro w mg fa h KX G hmg
    have T : L2.Txt Mw.BN mg := by
      refine' L2.txt_cons KX G ?z1 (L2.txt_cons KX G ?z2 (L2.txt_cons KX G ?z3 (L2.txt_cons KX G ?z4 (L2.txt_cons KX G ?z5 (L2.txt_cons KX G ?z6 (L2.txt_cons KX G ?z7 (L2.txt_cons KX G ?z8 (L2.txt_cons KX G ?z9 (L2.txt_cons KX G ?z10 (L2.txt_cons KX G ?z11 (L2.txt_cons KX G ?z12 L2.txt_nil)))))))))))
      (case z1 => k_is); (case z2 => k_is); (case z3 => k_is); (case z4 => k_is); (case z5 => k_is); (case z6 => k_is); (case z7 => k_is); (case z8 => k_is); (case z9 => k_is); (case z10 => k_is); (case z11 => k_is); (case z12 => k_is)
    obtain ⟨C_Hand, C_PlainHand, C_MarginHand, X_NoPoint, X_NoSide, X_NotParted, X_TooMany, PR⟩ : ∃ C_Hand C_PlainHand C_MarginHand X_NoPoint X_NoSide X_NotParted X_TooMany, Mw.Prog (L2.KOf KX) mg C_Hand C_PlainHand C_MarginHand X_NoPoint X_NoSide X_NotParted X_TooMany := by
      dsimp only [L2.KOf]
      refine' ⟨_, _, _, _, _, _, _, ⟨⟨⟨?z2, ?z3, ?z4, ?z5⟩, ?z6, ?z7, PySem.W.mg_of KX G ?z1⟩, ⟨⟨?z9, ?z10, ?z11, ?z12⟩, ?z13, ?z14, PySem.W.mg_of KX G ?z8⟩, ⟨⟨?z16, ?z17, ?z18, ?z19⟩, ?z20, ?z21, PySem.W.mg_of KX G ?z15⟩, ⟨⟨?z23⟩, PySem.W.mg_of KX G ?z22⟩, ⟨⟨?z25⟩, PySem.W.mg_of KX G ?z24⟩, ⟨⟨?z27⟩, PySem.W.mg_of KX G ?z26⟩, ⟨⟨?z29⟩, PySem.W.mg_of KX G ?z28⟩, ?z30, ?z31, ?z32, ?z33, ?z34, ⟨⟨_, _, ⟨?z35, ?z36, ?z37⟩, L2.fun_mk ?z38 ?z39 ?z40⟩⟩, ⟨⟨_, _, ⟨?z41, ?z42, ?z43⟩, L2.fun_mk ?z44 ?z45 ?z46⟩⟩, ⟨⟨_, _, ⟨?z47, ?z48, ?z49⟩, L2.fun_mk ?z50 ?z51 ?z52⟩⟩, ⟨⟨_, _, ⟨?z53, ?z54, ?z55⟩, L2.fun_mk ?z56 ?z57 ?z58⟩⟩, ⟨⟨_, _, ⟨?z59, ?z60, ?z61⟩, L2.fun_mk ?z62 ?z63 ?z64⟩⟩, ⟨⟨_, _, ⟨?z65, ?z66, ?z67⟩, L2.fun_mk ?z68 ?z69 ?z70⟩⟩, ⟨⟨_, _, ⟨?z71, ?z72, ?z73⟩, L2.fun_mk ?z74 ?z75 ?z76⟩⟩, ⟨⟨_, _, ⟨?z77, ?z78, ?z79⟩, L2.fun_mk ?z80 ?z81 ?z82⟩⟩, ⟨⟨_, _, ⟨?z83, ?z84, ?z85⟩, L2.fun_mk ?z86 ?z87 ?z88⟩⟩, ⟨⟨_, _, ⟨?z89, ?z90, ?z91⟩, L2.fun_mk ?z92 ?z93 ?z94⟩⟩, ⟨⟨_, _, ⟨?z95, ?z96, ?z97⟩, L2.fun_mk ?z98 ?z99 ?z100⟩⟩, ?z101, ?z102, ?z103, ?z104, ⟨⟨_, _, ⟨?z105, ?z106, ?z107⟩, L2.fun_mk ?z108 ?z109 ?z110⟩⟩, ⟨⟨_, _, ⟨?z111, ?z112, ?z113⟩, L2.fun_mk ?z114 ?z115 ?z116⟩⟩, ⟨⟨_, _, ⟨?z117, ?z118, ?z119⟩, L2.fun_mk ?z120 ?z121 ?z122⟩⟩, ⟨⟨_, _, ⟨?z123, ?z124, ?z125⟩, L2.fun_mk ?z126 ?z127 ?z128⟩⟩, ⟨⟨_, _, ⟨?z129, ?z130, ?z131⟩, L2.fun_mk ?z132 ?z133 ?z134⟩⟩, ⟨⟨_, _, ⟨?z135, ?z136, ?z137⟩, L2.fun_mk ?z138 ?z139 ?z140⟩⟩, ⟨⟨_, _, ⟨?z141, ?z142, ?z143⟩, L2.fun_mk ?z144 ?z145 ?z146⟩⟩, ⟨⟨_, _, ⟨?z147, ?z148, ?z149⟩, L2.fun_mk ?z150 ?z151 ?z152⟩⟩, ⟨⟨_, _, ⟨?z153, ?z154, ?z155⟩, L2.fun_mk ?z156 ?z157 ?z158⟩⟩, ⟨⟨_, _, ⟨?z159, ?z160, ?z161⟩, L2.fun_mk ?z162 ?z163 ?z164⟩⟩, ⟨⟨_, _, ⟨?z165, ?z166, ?z167⟩, L2.fun_mk ?z168 ?z169 ?z170⟩⟩, ?z171, ?z172, ?z173, ?z174, ⟨⟨_, _, ⟨?z175, ?z176, ?z177⟩, L2.fun_mk ?z178 ?z179 ?z180⟩⟩, ⟨⟨_, _, ⟨?z181, ?z182, ?z183⟩, L2.fun_mk ?z184 ?z185 ?z186⟩⟩, ⟨⟨_, _, ⟨?z187, ?z188, ?z189⟩, L2.fun_mk ?z190 ?z191 ?z192⟩⟩, ⟨⟨_, _, ⟨?z193, ?z194, ?z195⟩, L2.fun_mk ?z196 ?z197 ?z198⟩⟩, ⟨⟨_, _, ⟨?z199, ?z200, ?z201⟩, L2.fun_mk ?z202 ?z203 ?z204⟩⟩, ⟨⟨_, _, ⟨?z205, ?z206, ?z207⟩, L2.fun_mk ?z208 ?z209 ?z210⟩⟩, ⟨⟨_, _, ⟨?z211, ?z212, ?z213⟩, L2.fun_mk ?z214 ?z215 ?z216⟩⟩, ⟨⟨_, _, ⟨?z217, ?z218, ?z219⟩, L2.fun_mk ?z220 ?z221 ?z222⟩⟩, ⟨⟨_, _, ⟨?z223, ?z224, ?z225⟩, L2.fun_mk ?z226 ?z227 ?z228⟩⟩, ⟨⟨_, _, ⟨?z229, ?z230, ?z231⟩, L2.fun_mk ?z232 ?z233 ?z234⟩⟩, ⟨⟨_, _, ⟨?z235, ?z236, ?z237⟩, L2.fun_mk ?z238 ?z239 ?z240⟩⟩, ?z241, ?z242, ?z243, ⟨⟨_, _, ?z244, ?z245, ?z246, L2.fun_mk ?z247 ?z248 ?z249⟩⟩⟩⟩
      (case z1 => k_is)
      (case z2 => k_is)
      (case z3 => k_is)
      (case z4 => k_is)
      (case z5 => k_is)
      (case z6 => k_is)
      (case z7 => k_is)
      (case z8 => k_is)
      (case z9 => k_is)
      (case z10 => k_is)
      (case z11 => k_is)
      (case z12 => k_is)
      (case z13 => k_is)
      (case z14 => k_is)
      (case z15 => k_is)
      (case z16 => k_is)
      (case z17 => k_is)
      (case z18 => k_is)
      (case z19 => k_is)
      (case z20 => k_is)
      (case z21 => k_is)
      (case z22 => k_is)
      (case z23 => k_exc)
      (case z24 => k_is)
      (case z25 => k_exc)
      (case z26 => k_is)
      (case z27 => k_exc)
      (case z28 => k_is)
      (case z29 => k_exc)
      (case z30 => kts_exm)
      (case z31 => (unfold L2.NoAttr; k_is))
      (case z32 => (unfold L2.NoAttr; k_is))
      (case z33 => (unfold L2.NoAttr; k_is))
      (case z34 => (unfold L2.NoAttr; k_is))
      (case z35 => k_is)
      (case z36 => k_is)
      (case z37 => k_is)
      (case z38 => k_is)
      (case z39 => k_is)
      (case z40 => k_is)
      (case z41 => k_is)
      (case z42 => k_is)
      (case z43 => k_is)
      (case z44 => k_is)
      (case z45 => k_is)
      (case z46 => k_is)
      (case z47 => k_is)
      (case z48 => k_is)
      (case z49 => k_is)
      (case z50 => k_is)
      (case z51 => k_is)
      (case z52 => k_is)
      (case z53 => k_is)
      (case z54 => k_is)
      (case z55 => k_is)
      (case z56 => k_is)
      (case z57 => k_is)
      (case z58 => k_is)
      (case z59 => k_is)
      (case z60 => k_is)
      (case z61 => k_is)
      (case z62 => k_is)
      (case z63 => k_is)
      (case z64 => k_is)
      (case z65 => k_is)
      (case z66 => k_is)
      (case z67 => k_is)
      (case z68 => k_is)
      (case z69 => k_is)
      (case z70 => k_is)
      (case z71 => k_is)
      (case z72 => k_is)
      (case z73 => k_is)
      (case z74 => k_is)
      (case z75 => k_is)
      (case z76 => k_is)
      (case z77 => k_is)
      (case z78 => k_is)
      (case z79 => k_is)
      (case z80 => k_is)
      (case z81 => k_is)
      (case z82 => k_is)
      (case z83 => k_is)
      (case z84 => k_is)
      (case z85 => k_is)
      (case z86 => k_is)
      (case z87 => k_is)
      (case z88 => k_is)
      (case z89 => k_is)
      (case z90 => k_is)
      (case z91 => k_is)
      (case z92 => k_is)
      (case z93 => k_is)
      (case z94 => k_is)
      (case z95 => k_is)
      (case z96 => k_is)
      (case z97 => k_is)
      (case z98 => k_is)
      (case z99 => k_is)
      (case z100 => k_is)
      (case z101 => (unfold L2.NoAttr; k_is))
      (case z102 => (unfold L2.NoAttr; k_is))
      (case z103 => (unfold L2.NoAttr; k_is))
      (case z104 => (unfold L2.NoAttr; k_is))
      (case z105 => k_is)
      (case z106 => k_is)
      (case z107 => k_is)
      (case z108 => k_is)
      (case z109 => k_is)
      (case z110 => k_is)
      (case z111 => k_is)
      (case z112 => k_is)
      (case z113 => k_is)
      (case z114 => k_is)
      (case z115 => k_is)
      (case z116 => k_is)
      (case z117 => k_is)
      (case z118 => k_is)
      (case z119 => k_is)
      (case z120 => k_is)
      (case z121 => k_is)
      (case z122 => k_is)
      (case z123 => k_is)
      (case z124 => k_is)
      (case z125 => k_is)
      (case z126 => k_is)
      (case z127 => k_is)
      (case z128 => k_is)
      (case z129 => k_is)
      (case z130 => k_is)
      (case z131 => k_is)
      (case z132 => k_is)
      (case z133 => k_is)
      (case z134 => k_is)
      (case z135 => k_is)
      (case z136 => k_is)
      (case z137 => k_is)
      (case z138 => k_is)
      (case z139 => k_is)
      (case z140 => k_is)
      (case z141 => k_is)
      (case z142 => k_is)
      (case z143 => k_is)
      (case z144 => k_is)
      (case z145 => k_is)
      (case z146 => k_is)
      (case z147 => k_is)
      (case z148 => k_is)
      (case z149 => k_is)
      (case z150 => k_is)
      (case z151 => k_is)
      (case z152 => k_is)
      (case z153 => k_is)
      (case z154 => k_is)
      (case z155 => k_is)
      (case z156 => k_is)
      (case z157 => k_is)
      (case z158 => k_is)
      (case z159 => k_is)
      (case z160 => k_is)
      (case z161 => k_is)
      (case z162 => k_is)
      (case z163 => k_is)
      (case z164 => k_is)
      (case z165 => k_is)
      (case z166 => k_is)
      (case z167 => k_is)
      (case z168 => k_is)
      (case z169 => k_is)
      (case z170 => k_is)
      (case z171 => (unfold L2.NoAttr; k_is))
      (case z172 => (unfold L2.NoAttr; k_is))
      (case z173 => (unfold L2.NoAttr; k_is))
      (case z174 => (unfold L2.NoAttr; k_is))
      (case z175 => k_is)
      (case z176 => k_is)
      (case z177 => k_is)
      (case z178 => k_is)
      (case z179 => k_is)
      (case z180 => k_is)
      (case z181 => k_is)
      (case z182 => k_is)
      (case z183 => k_is)
      (case z184 => k_is)
      (case z185 => k_is)
      (case z186 => k_is)
      (case z187 => k_is)
      (case z188 => k_is)
      (case z189 => k_is)
      (case z190 => k_is)
      (case z191 => k_is)
      (case z192 => k_is)
      (case z193 => k_is)
      (case z194 => k_is)
      (case z195 => k_is)
      (case z196 => k_is)
      (case z197 => k_is)
      (case z198 => k_is)
      (case z199 => k_is)
      (case z200 => k_is)
      (case z201 => k_is)
      (case z202 => k_is)
      (case z203 => k_is)
      (case z204 => k_is)
      (case z205 => k_is)
      (case z206 => k_is)
      (case z207 => k_is)
      (case z208 => k_is)
      (case z209 => k_is)
      (case z210 => k_is)
      (case z211 => k_is)
      (case z212 => k_is)
      (case z213 => k_is)
      (case z214 => k_is)
      (case z215 => k_is)
      (case z216 => k_is)
      (case z217 => k_is)
      (case z218 => k_is)
      (case z219 => k_is)
      (case z220 => k_is)
      (case z221 => k_is)
      (case z222 => k_is)
      (case z223 => k_is)
      (case z224 => k_is)
      (case z225 => k_is)
      (case z226 => k_is)
      (case z227 => k_is)
      (case z228 => k_is)
      (case z229 => k_is)
      (case z230 => k_is)
      (case z231 => k_is)
      (case z232 => k_is)
      (case z233 => k_is)
      (case z234 => k_is)
      (case z235 => k_is)
      (case z236 => k_is)
      (case z237 => k_is)
      (case z238 => k_is)
      (case z239 => k_is)
      (case z240 => k_is)
      (case z241 => decide)
      (case z242 => decide)
      (case z243 => decide)
      (case z244 => k_is)
      (case z245 => k_is)
      (case z246 => k_is)
      (case z247 => k_is)
      (case z248 => k_is)
      (case z249 => k_is)
    have d7 : L2.DefAt (L2.KOf KX) "product" (Mw.top 7) := by dsimp only [L2.KOf]; refine' L2.defAt ?a ?l ?c ?k; (case a => k_is); (case l => k_is); (case c => k_is); (case k => k_is)
    have d8 : L2.DefAt (L2.KOf KX) "square" (Mw.top 8) := by dsimp only [L2.KOf]; refine' L2.defAt ?a ?l ?c ?k; (case a => k_is); (case l => k_is); (case c => k_is); (case k => k_is)
    have d9 : L2.DefAt (L2.KOf KX) "lifted" (Mw.top 9) := by dsimp only [L2.KOf]; refine' L2.defAt ?a ?l ?c ?k; (case a => k_is); (case l => k_is); (case c => k_is); (case k => k_is)
    have d10 : L2.DefAt (L2.KOf KX) "told_by" (Mw.top 10) := by dsimp only [L2.KOf]; refine' L2.defAt ?a ?l ?c ?k; (case a => k_is); (case l => k_is); (case c => k_is); (case k => k_is)
    have d11 : L2.DefAt (L2.KOf KX) "turned" (Mw.top 11) := by dsimp only [L2.KOf]; refine' L2.defAt ?a ?l ?c ?k; (case a => k_is); (case l => k_is); (case c => k_is); (case k => k_is)
    have d12 : L2.DefAt (L2.KOf KX) "turned_products" (Mw.top 12) := by dsimp only [L2.KOf]; refine' L2.defAt ?a ?l ?c ?k; (case a => k_is); (case l => k_is); (case c => k_is); (case k => k_is)
    have d13 : L2.DefAt (L2.KOf KX) "are_parted" (Mw.top 13) := by dsimp only [L2.KOf]; refine' L2.defAt ?a ?l ?c ?k; (case a => k_is); (case l => k_is); (case c => k_is); (case k => k_is)
    have d14 : L2.DefAt (L2.KOf KX) "gap_on" (Mw.top 14) := by dsimp only [L2.KOf]; refine' L2.defAt ?a ?l ?c ?k; (case a => k_is); (case l => k_is); (case c => k_is); (case k => k_is)
    have d15 : L2.DefAt (L2.KOf KX) "farthest" (Mw.top 15) := by dsimp only [L2.KOf]; refine' L2.defAt ?a ?l ?c ?k; (case a => k_is); (case l => k_is); (case c => k_is); (case k => k_is)
    have d17 : L2.DefAt (L2.KOf KX) "run_once" (Mw.top 17) := by dsimp only [L2.KOf]; refine' L2.defAt ?a ?l ?c ?k; (case a => k_is); (case l => k_is); (case c => k_is); (case k => k_is)
    have d18 : L2.DefAtD (L2.KOf KX) "run" (Mw.top 18) [.int 5000] := by dsimp only [L2.KOf]; refine' L2.defAtD ?a ?l ?t ?c ?k ?h; (case a => k_is); (case l => k_is); (case t => k_is); (case c => k_is); (case k => k_is); (case h => exact ⟨[_], rfl, .cons ⟨_, rfl⟩ .nil⟩)
    have d19 : L2.DefAtD (L2.KOf KX) "bound_of" (Mw.top 19) [.int 0] := by dsimp only [L2.KOf]; refine' L2.defAtD ?a ?l ?t ?c ?k ?h; (case a => k_is); (case l => k_is); (case t => k_is); (case c => k_is); (case k => k_is); (case h => exact ⟨[_], rfl, .cons ⟨_, rfl⟩ .nil⟩)
    have d21 : L2.DefAt (L2.KOf KX) "moved" (Mw.top 21) := by dsimp only [L2.KOf]; refine' L2.defAt ?a ?l ?c ?k; (case a => k_is); (case l => k_is); (case c => k_is); (case k => k_is)
    have d26 : L2.DefAt (L2.KOf KX) "_law_cell_at" (Mw.top 26) := by dsimp only [L2.KOf]; refine' L2.defAt ?a ?l ?c ?k; (case a => k_is); (case l => k_is); (case c => k_is); (case k => k_is)
    have d27 : L2.DefAt (L2.KOf KX) "_law_mixed" (Mw.top 27) := by dsimp only [L2.KOf]; refine' L2.defAt ?a ?l ?c ?k; (case a => k_is); (case l => k_is); (case c => k_is); (case k => k_is)
    have d28 : L2.DefAt (L2.KOf KX) "_law_drawn" (Mw.top 28) := by dsimp only [L2.KOf]; refine' L2.defAt ?a ?l ?c ?k; (case a => k_is); (case l => k_is); (case c => k_is); (case k => k_is)
    have d29 : L2.DefAt (L2.KOf KX) "_law_points" (Mw.top 29) := by dsimp only [L2.KOf]; refine' L2.defAt ?a ?l ?c ?k; (case a => k_is); (case l => k_is); (case c => k_is); (case k => k_is)
    have d30 : L2.DefAt (L2.KOf KX) "_law_product" (Mw.top 30) := by dsimp only [L2.KOf]; refine' L2.defAt ?a ?l ?c ?k; (case a => k_is); (case l => k_is); (case c => k_is); (case k => k_is)
    have d31 : L2.DefAt (L2.KOf KX) "_law_parted" (Mw.top 31) := by dsimp only [L2.KOf]; refine' L2.defAt ?a ?l ?c ?k; (case a => k_is); (case l => k_is); (case c => k_is); (case k => k_is)
    have d32 : L2.DefAt (L2.KOf KX) "_law_numbers_of" (Mw.top 32) := by dsimp only [L2.KOf]; refine' L2.defAt ?a ?l ?c ?k; (case a => k_is); (case l => k_is); (case c => k_is); (case k => k_is)
    have d33 : L2.DefAt (L2.KOf KX) "_law_book" (Mw.top 33) := by dsimp only [L2.KOf]; refine' L2.defAt ?a ?l ?c ?k; (case a => k_is); (case l => k_is); (case c => k_is); (case k => k_is)
    have d34 : L2.DefAt (L2.KOf KX) "_law_all_right" (Mw.top 34) := by dsimp only [L2.KOf]; refine' L2.defAt ?a ?l ?c ?k; (case a => k_is); (case l => k_is); (case c => k_is); (case k => k_is)
    have d35 : L2.DefAt (L2.KOf KX) "law" (Mw.top 35) := by dsimp only [L2.KOf]; refine' L2.defAt ?a ?l ?c ?k; (case a => k_is); (case l => k_is); (case c => k_is); (case k => k_is)
    refine d35.law KX G hmg (fun _ _ _ _ _ _ us hl => match us, hl with | [_], _ => rfl) fun f fd base F kb nb => ?_
    have c7 := d7.cal (P := PySem.Challenge.rw_mendweights_k19_whole_runs_end.prog) (w := w) (base := base) (ps := ["one", "other"]) KX G (fun _ _ _ _ _ _ us hl => match us, hl with | [_, _], _ => rfl) fun f fd F => Mw.ok_product F T 
    have c8 := d8.cal (P := PySem.Challenge.rw_mendweights_k19_whole_runs_end.prog) (w := w) (base := base) (ps := ["one"]) KX G (fun _ _ _ _ _ _ us hl => match us, hl with | [_], _ => rfl) fun f fd F => Mw.ok_square F T c7
    have c9 := d9.cal (P := PySem.Challenge.rw_mendweights_k19_whole_runs_end.prog) (w := w) (base := base) (ps := ["point"]) KX G (fun _ _ _ _ _ _ us hl => match us, hl with | [_], _ => rfl) fun f fd F => Mw.ok_lifted F T 
    have c10 := d10.cal (P := PySem.Challenge.rw_mendweights_k19_whole_runs_end.prog) (w := w) (base := base) (ps := ["weights", "point"]) KX G (fun _ _ _ _ _ _ us hl => match us, hl with | [_, _], _ => rfl) fun f fd F => Mw.ok_told_by F T c7 c9
    have c11 := d11.cal (P := PySem.Challenge.rw_mendweights_k19_whole_runs_end.prog) (w := w) (base := base) (ps := ["number", "side"]) KX G (fun _ _ _ _ _ _ us hl => match us, hl with | [_, _], _ => rfl) fun f fd F => Mw.ok_turned F T 
    have c12 := d12.cal (P := PySem.Challenge.rw_mendweights_k19_whole_runs_end.prog) (w := w) (base := base) (ps := ["rows", "weights"]) KX G (fun _ _ _ _ _ _ us hl => match us, hl with | [_, _], _ => rfl) fun f fd F => Mw.ok_turned_products F T c11 c10
    have c13 := d13.cal (P := PySem.Challenge.rw_mendweights_k19_whole_runs_end.prog) (w := w) (base := base) (ps := ["rows", "weights"]) KX G (fun _ _ _ _ _ _ us hl => match us, hl with | [_, _], _ => rfl) fun f fd F => Mw.ok_are_parted F T c12
    have c14 := d14.cal (P := PySem.Challenge.rw_mendweights_k19_whole_runs_end.prog) (w := w) (base := base) (ps := ["rows", "weights"]) KX G (fun _ _ _ _ _ _ us hl => match us, hl with | [_, _], _ => rfl) fun f fd F => Mw.ok_gap_on F T c12
    have c15 := d15.cal (P := PySem.Challenge.rw_mendweights_k19_whole_runs_end.prog) (w := w) (base := base) (ps := ["rows"]) KX G (fun _ _ _ _ _ _ us hl => match us, hl with | [_], _ => rfl) fun f fd F => Mw.ok_farthest F T c8 c9
    have c19 := d19.calX (P := PySem.Challenge.rw_mendweights_k19_whole_runs_end.prog) (w := w) (base := base) (ps := ["rows", "weights", "margin"]) KX G (fun d us hl => match us, hl with | [_, _, _], _ => fun _ _ _ _ _ _ _ => ⟨_, rfl, rfl⟩) fun dT dds f fd F => Mw.ok_bound_of F T PR.x_NotParted c13 c14 c15 c8
    have c21 := d21.cal (P := PySem.Challenge.rw_mendweights_k19_whole_runs_end.prog) (w := w) (base := base) (ps := ["weights", "point", "times"]) KX G (fun _ _ _ _ _ _ us hl => match us, hl with | [_, _, _], _ => rfl) fun f fd F => Mw.ok_moved F T c9
    obtain ⟨m_tells, m_put, m_weights, m_mistakes, m_would_err, HT, n_PlainHand, n_MarginHand⟩ := Mw.hands (P := PySem.Challenge.rw_mendweights_k19_whole_runs_end.prog) (w := w) (base := base) PR T c10 c11 c21
    have c17 := d17.calX (P := PySem.Challenge.rw_mendweights_k19_whole_runs_end.prog) (w := w) (base := base) (ps := ["hand", "rows", "most", "book"]) KX G (fun _ _ _ _ _ _ us hl => match us, hl with | [_, _, _, _], _ => rfl) fun f fd F => Mw.ok_run_once F T PR.x_TooMany m_would_err m_put
    have c18 := d18.calX (P := PySem.Challenge.rw_mendweights_k19_whole_runs_end.prog) (w := w) (base := base) (ps := ["hand", "rows", "most"]) KX G (fun d us hl => match us, hl with | [_, _, _], _ => fun _ _ _ _ _ _ _ => ⟨_, rfl, rfl⟩) fun dT dds f fd F => Mw.ok_run F T c17
    have c26 := d26.cal (P := PySem.Challenge.rw_mendweights_k19_whole_runs_end.prog) (w := w) (base := base) (ps := ["_law_script", "_law_k"]) KX G (fun _ _ _ _ _ _ us hl => match us, hl with | [_, _], _ => rfl) fun f fd F => Mw.ok__law_cell_at F T 
    have c27 := d27.cal (P := PySem.Challenge.rw_mendweights_k19_whole_runs_end.prog) (w := w) (base := base) (ps := ["_law_script", "_law_k"]) KX G (fun _ _ _ _ _ _ us hl => match us, hl with | [_, _], _ => rfl) fun f fd F => Mw.ok__law_mixed F T c26
    have c28 := d28.cal (P := PySem.Challenge.rw_mendweights_k19_whole_runs_end.prog) (w := w) (base := base) (ps := ["_law_script", "_law_tops"]) KX G (fun _ _ _ _ _ _ us hl => match us, hl with | [_, _], _ => rfl) fun f fd F => Mw.ok__law_drawn F T c26 c27
    have c29 := d29.cal (P := PySem.Challenge.rw_mendweights_k19_whole_runs_end.prog) (w := w) (base := base) (ps := ["_law_drawn_here", "_law_many", "_law_reach", "_law_rows"]) KX G (fun _ _ _ _ _ _ us hl => match us, hl with | [_, _, _, _], _ => rfl) fun f fd F => Mw.ok__law_points F T 
    have c30 := d30.cal (P := PySem.Challenge.rw_mendweights_k19_whole_runs_end.prog) (w := w) (base := base) (ps := ["_law_weights", "_law_point"]) KX G (fun _ _ _ _ _ _ us hl => match us, hl with | [_, _], _ => rfl) fun f fd F => Mw.ok__law_product F T 
    have c31 := d31.cal (P := PySem.Challenge.rw_mendweights_k19_whole_runs_end.prog) (w := w) (base := base) (ps := ["_law_script", "_law_size", "_law_reach", "_law_many", "_law_order"]) KX G (fun _ _ _ _ _ _ us hl => match us, hl with | [_, _, _, _, _], _ => rfl) fun f fd F => Mw.ok__law_parted F T c28 c29 c30
    have c32 := d32.cal (P := PySem.Challenge.rw_mendweights_k19_whole_runs_end.prog) (w := w) (base := base) (ps := ["_law_rows", "_law_weights"]) KX G (fun _ _ _ _ _ _ us hl => match us, hl with | [_, _], _ => rfl) fun f fd F => Mw.ok__law_numbers_of F T c30
    have c33 := d33.cal (P := PySem.Challenge.rw_mendweights_k19_whole_runs_end.prog) (w := w) (base := base) (ps := ["_law_hand", "_law_rows", "_law_most"]) KX G (fun _ _ _ _ _ _ us hl => match us, hl with | [_, _, _], _ => rfl) fun f fd F => Mw.ok__law_book F T PR.x_TooMany PR.e_TooMany_TooMany c18
    have c34 := d34.cal (P := PySem.Challenge.rw_mendweights_k19_whole_runs_end.prog) (w := w) (base := base) (ps := ["_law_hand", "_law_rows", "_law_margin"]) KX G (fun _ _ _ _ _ _ us hl => match us, hl with | [_, _, _], _ => rfl) fun f fd F => Mw.ok__law_all_right F T c30 m_tells m_put m_weights
    exact Mw.ok_law F T ⟨by decide, by decide⟩ c26 c31 c32 c19 c33 c34 n_PlainHand n_MarginHand m_weights m_mistakes
