import PyProof.Rows.All
import Wide.All
import OpenK.AllK
import Wide.FinOn
import Lean
import PyProof.EqAt
import PyProof.EqKinds
import PyProof.TupleCall
import PyProof.NeKinds
import PySem.Challenge.RW_mendweights_k18_bounds_told
set_option Elab.async false
set_option linter.all false
set_option maxRecDepth 100000
namespace L2
open PySem PySem.Spec PyProof.Rows
abbrev Key := Sum Int Str
def keyIs : Key → Value → Bool
  | .inl k, v => Value.isInt k v
  | .inr x, v => Value.isStrOf x v
def keyH (w : World) : Key → Int
  | .inl k => hashInt k
  | .inr x => hashStr w x
theorem keyIs_shape : ∀ {k : Key} {v : Value}, keyIs k v = true → (∃ i t, k = Sum.inl i ∧ v = Value.int i t) ∨ (∃ x t, k = Sum.inr x ∧ v = Value.str x t)
  | .inl i, v, h => by
    obtain ⟨t, e⟩ := Value.isInt_shape (k := i) (v := v) h
    exact .inl ⟨i, t, rfl, e⟩
  | .inr x, v, h => by
    obtain ⟨t, e⟩ := Value.isStrOf_shape (x := x) (v := v) h
    exact .inr ⟨x, t, rfl, e⟩
theorem key_ll (a b : Int) : decide ((Sum.inl a : Key) = Sum.inl b) = (a == b) := by
  by_cases e : a = b
  · subst e; simp
  · have h : ¬ (Sum.inl a : Key) = Sum.inl b := fun q => e (Sum.inl.inj q)
    rw [decide_eq_false h]
    exact (beq_eq_false_iff_ne.mpr e).symm
theorem key_rr (a b : Str) : decide ((Sum.inr a : Key) = Sum.inr b) = decide (a = b) := by
  by_cases e : a = b
  · subst e; simp
  · have h : ¬ (Sum.inr a : Key) = Sum.inr b := fun q => e (Sum.inr.inj q)
    rw [decide_eq_false h, decide_eq_false e]
theorem key_lr (a : Int) (b : Str) : decide ((Sum.inl a : Key) = Sum.inr b) = false := decide_eq_false (fun q => nomatch q)
theorem key_rl (a : Str) (b : Int) : decide ((Sum.inr a : Key) = Sum.inl b) = false := decide_eq_false (fun q => nomatch q)
def mixKind (prog : Program) (w : World) : PySem.KeyKind prog w Key where
  is := keyIs
  hash := keyH w
  inj := fun v a b ha hb => by
    rcases keyIs_shape ha with ⟨i, t, rfl, rfl⟩ | ⟨x, t, rfl, rfl⟩
    · rcases keyIs_shape hb with ⟨j, u, rfl, e⟩ | ⟨y, u, rfl, e⟩
      · injection e with e1 _; rw [e1]
      · exact nomatch e
    · rcases keyIs_shape hb with ⟨j, u, rfl, e⟩ | ⟨y, u, rfl, e⟩
      · exact nomatch e
      · injection e with e1 _; rw [e1]
  byValue := fun k v h => by
    rcases keyIs_shape h with ⟨i, t, rfl, rfl⟩ | ⟨x, t, rfl, rfl⟩ <;> rfl
  pyHash := fun hv h => by
    rcases keyIs_shape hv with ⟨i, t, rfl, rfl⟩ | ⟨x, t, rfl, rfl⟩
    · exact wpAny_pyHash_int h
    · exact wpAny_pyHash_str h
  eqBool := fun hu hv h => by
    rcases keyIs_shape hu with ⟨i, t, rfl, rfl⟩ | ⟨x, t, rfl, rfl⟩
    · rcases keyIs_shape hv with ⟨j, u, rfl, rfl⟩ | ⟨y, u, rfl, rfl⟩
      · rw [key_ll] at h; exact wpAny_eqBool_int h
      · rw [key_lr] at h; exact SeqAt.EqAt.int_str i t y u _ _ _ _ h
    · rcases keyIs_shape hv with ⟨j, u, rfl, rfl⟩ | ⟨y, u, rfl, rfl⟩
      · rw [key_rl] at h; exact SeqAt.EqAt.str_int x t j u _ _ _ _ h
      · rw [key_rr] at h; exact wpAny_eqBool_str h
  «strs» := fun k x t v h => by
    rcases keyIs_shape h with ⟨i, u, rfl, e⟩ | ⟨y, u, rfl, e⟩
    · exact nomatch e
    · injection e with e1 _
      subst e1
      cases v <;> rfl
end L2
namespace L2
open PySem PySem.Spec PyProof.Rows
inductive V where
  | non | bl (b : Bool) | int (i : Int) | str (x : Str) | byt (b : Array UInt8) | flt (b : UInt64) | ref (a : Addr) | ty (n : String)
  deriving DecidableEq
def RelV : V → Value → Prop
  | .non, u => u = Value.none
  | .bl b, u => u = Value.bool b
  | .int i, u => ∃ t, u = Value.int i t
  | .str x, u => ∃ t, u = Value.str x t
  | .byt b, u => ∃ t, u = Value.bytes b t
  | .flt b, u => ∃ t, u = Value.float b t
  | .ref a, u => u = Value.ref a
  | .ty n, u => u = Value.type n
abbrev Vals : List V → List Value → Prop := Paired RelV
theorem Vals.length {xs : List V} {us : List Value} (r : Vals xs us) : xs.length = us.length := Paired.length r
theorem Vals.get : ∀ {xs : List V} {us : List Value} {i : Nat} {x : V}, Vals xs us → xs[i]? = some x → ∃ u, us[i]? = some u ∧ RelV x u
  | _, _, _, _, .nil, e => by simp at e
  | _, _, 0, _, .cons r _, e => by simp at e; subst e; exact ⟨_, rfl, r⟩
  | _, _, i + 1, x, .cons _ t, e => by
    obtain ⟨u, h1, h2⟩ := Vals.get (i := i) (x := x) t (by simpa using e)
    exact ⟨u, by simpa using h1, h2⟩
theorem Vals.set {x : V} {u : Value} (r : RelV x u) : ∀ {xs : List V} {us : List Value} (i : Nat), Vals xs us → Vals (xs.set i x) (us.set i u)
  | _, _, _, .nil => .nil
  | _, _, 0, .cons _ t => .cons r t
  | _, _, i + 1, .cons q t => .cons q (Vals.set r i t)
theorem Vals.append : ∀ {xs ys : List V} {us ws : List Value}, Vals xs us → Vals ys ws → Vals (xs ++ ys) (us ++ ws)
  | _, _, _, _, .nil, s => s
  | _, _, _, _, .cons r t, s => .cons r (Vals.append t s)
theorem Vals.take : ∀ {xs : List V} {us : List Value} (n : Nat), Vals xs us → Vals (xs.take n) (us.take n)
  | _, _, 0, _ => .nil
  | _, _, _ + 1, .nil => .nil
  | _, _, n + 1, .cons r t => .cons r (Vals.take n t)
theorem Vals.drop : ∀ {xs : List V} {us : List Value} (n : Nat), Vals xs us → Vals (xs.drop n) (us.drop n)
  | _, _, 0, r => r
  | _, _, _ + 1, .nil => .nil
  | _, _, n + 1, .cons _ t => Vals.drop n t
def RelO : Option V → Option Value → Prop
  | some v, some u => RelV v u
  | none, none => True
  | _, _ => False
def KV {κ : Type} : List (κ × V) → List (κ × Value) → Prop := Paired fun (p : κ × V) (q : κ × Value) => p.1 = q.1 ∧ RelV p.2 q.2
def kV : Key → V
  | .inl i => .int i
  | .inr x => .str x
inductive HO where
  /-- a list -/
  | lst (xs : List V)
  /-- a tuple (never changes) -/
  | tup (xs : List V)
  /-- a dict whose keys are ints and texts; one whose keys are tuples of ints and texts (the empty one is both) -/
  | dK (kvs : List (Key × V)) | dT (kvs : List (List Key × V))
  /-- a set of ints: its members, its size -/
  | set (S : Int → Bool) (n : Nat)
  /-- an instance of the class at C, its dict at dx, its attributes -/
  | ins (C dx : Addr) (fs : List (Str × V))
  /-- the dict of the instance at x -/
  | own (x : Addr)
  /-- the dict of an exception -/
  | xd (fs : List (Str × V))
  /-- a bound method, f of x -/
  | met (f x : Addr)
  /-- a range object lo, lo + 1, .. below hi -/
  | rng (lo hi : Int)
  /-- a thing that is known to the object (the script; a dict while a loop walks it): read, never written while it is so -/
  | frz (o : Obj) (u : HO)
  /-- a code object's table -/
  | tbl (ps : Array Value)
  /-- any other thing, by what is true of its one object (a def of one's own: SetO a S n := HO.ext fun h => ..) -/
  | ext (φ : Heap → Prop)
abbrev Hp := Addr → Option HO
def upd (H : Hp) (a : Addr) (o : HO) : Hp := fun b => if b = a then some o else H b
theorem upd_same {H : Hp} {a : Addr} {o : HO} : upd H a o a = some o := by unfold upd; rw [if_pos rfl]
theorem upd_ne {H : Hp} {a b : Addr} {o : HO} (h : b ≠ a) : upd H a o b = H b := by unfold upd; rw [if_neg h]
theorem ne_of_none {H : Hp} {a b : Addr} {o : HO} (h : H a = some o) (h' : H b = none) : a ≠ b := by
  intro e; subst e; rw [h] at h'; cases h'
section
variable (P : Program) (w : World)
def ObjOk (H : Hp) (h : Heap) (a : Addr) : HO → Prop
  | .lst xs => xs.length ≤ sizeLine ∧ ∃ (its : List Value) (n : Nat), Vals xs its ∧ h.get? a = some { cls := .type "list", data := .seq its.toArray n }
  | .tup xs => xs.length ≤ sizeLine ∧ ∃ its : List Value, Vals xs its ∧ IsTup h a its.toArray
  | .dK kvs => kvs.length ≤ sizeLine ∧ (a == sysModules) = false ∧ ∃ vs, KV kvs vs ∧ h.DictOf (mixKind P w) a vs
  | .dT kvs => kvs.length ≤ sizeLine ∧ (a == sysModules) = false ∧ ∃ xs : List (List Key × Addr × Value),
      Paired (fun (p : List Key × V) (q : List Key × Addr × Value) => p.1 = q.1 ∧ H q.2.1 = some (.tup (p.1.map kV)) ∧ RelV p.2 q.2.2) kvs xs ∧
      ∃ o es ep, h.get? a = some o ∧ o.ExactDict ∧ o.data = .dict es ep ∧ es.toList = xs.map (entryOfKey (tupleKind (mixKind P w))) ∧ (xs.map (·.1)).Nodup
  | .set S n => h.SetOf (intKind P w) a S n
  | .ins C dx fs => H dx = some (.own a) ∧ fs.length ≤ 1000 ∧ dx ≠ a ∧ h.get? a = some (PySem.W.instObj C dx) ∧
      ∃ mA, h.Ns1 dx mA ∧ (∀ f, RelO (fs.lookup f) (mA f)) ∧ PySem.Within mA (fs.map (·.1))
  | .own _ => ∃ o, h.get? a = some o
  | .xd fs => ∃ mA, h.Ns1 a mA ∧ ∀ f, RelO (fs.lookup f) (mA f)
  | .rng lo hi => ∃ t u v, h.get? a = some { cls := .type "range", data := .fields #[.int lo t, .int hi u, .int 1 v] }
  | .frz o u => h.get? a = some o ∧ ObjOk H h a u
  | .tbl ps => h.get? a = some { cls := .none, data := .fields ps }
  | .met f x => h.get? a = some (PySem.W.methodObj (.ref f) (.ref x))
  | .ext φ => φ h ∧ (∃ o, h.get? a = some o) ∧ ∀ h1 h2 : Heap, φ h1 → (∀ o, h1.get? a = some o → h2.get? a = some o) → φ h2
def HOk (H : Hp) (h : Heap) : Prop := ∀ a o, H a = some o → ObjOk P w H h a o
end
section
variable {P : Program} {w : World} {H H' : Hp} {h h' : Heap} {a : Addr} {o : HO}
theorem ObjOk.lt (x : ObjOk P w H h a o) : a < h.objs.size := by
  cases o with
  | lst xs => obtain ⟨_, _, _, _, e⟩ := x; exact Heap.lt_size e
  | tup xs => obtain ⟨_, _, _, p⟩ := x; exact p.lt
  | dK kvs => obtain ⟨_, _, _, _, o, _, _, e, _⟩ := x; exact Heap.lt_size e
  | dT kvs => obtain ⟨_, _, _, _, o, _, _, e, _⟩ := x; exact Heap.lt_size e
  | set S n => obtain ⟨o, _, _, _, e, _⟩ := x; exact Heap.lt_size e
  | ins C dx fs => obtain ⟨_, _, _, e, _⟩ := x; exact Heap.lt_size e
  | own y => obtain ⟨_, e⟩ := x; exact Heap.lt_size e
  | xd fs => obtain ⟨_, ⟨_, _, _, e, _⟩, _⟩ := x; exact Heap.lt_size e
  | rng lo hi => obtain ⟨_, _, _, e⟩ := x; exact Heap.lt_size e
  | frz ob u => obtain ⟨e, _⟩ := x; exact Heap.lt_size e
  | tbl ps => exact Heap.lt_size (show h.get? a = some _ from x)
  | met f y => exact Heap.lt_size (show h.get? a = some _ from x)
  | ext φ => obtain ⟨_, ⟨_, e⟩, _⟩ := x; exact Heap.lt_size e
theorem Paired.mapP {α β : Type} {F G : α → β → Prop} : ∀ {l₁ : List α} {l₂ : List β}, Paired F l₁ l₂ → (∀ a b, F a b → G a b) → Paired G l₁ l₂
  | _, _, .nil, _ => .nil
  | _, _, .cons r t, f => .cons (f _ _ r) (Paired.mapP t f)
theorem ObjOk.stay (x : ObjOk P w H h a o) (k : ∀ b u, (b = a ∨ H b = some (.own a)) → h.get? b = some u → h'.get? b = some u)
    (ho : ∀ b, H b = some (.own a) → H' b = some (.own a)) (ht : ∀ b xs, H b = some (.tup xs) → H' b = some (.tup xs)) : ObjOk P w H' h' a o := by
  induction o with
  | lst xs => obtain ⟨z, its, n, r, e⟩ := x; exact ⟨z, its, n, r, k _ _ (.inl rfl) e⟩
  | tup xs => obtain ⟨z, its, r, ob, e, c⟩ := x; exact ⟨z, its, r, ob, k _ _ (.inl rfl) e, c⟩
  | dK kvs => obtain ⟨z, y, vs, r, ob, es, ep, e, c⟩ := x; exact ⟨z, y, vs, r, ob, es, ep, k _ _ (.inl rfl) e, c⟩
  | dT kvs =>
    obtain ⟨z, y, xs, r, ob, es, ep, e, c⟩ := x
    exact ⟨z, y, xs, Paired.mapP r fun p q z => ⟨z.1, ht _ _ z.2.1, z.2.2⟩, ob, es, ep, k _ _ (.inl rfl) e, c⟩
  | set S n => obtain ⟨ob, es, ep, t, e, c⟩ := x; exact ⟨ob, es, ep, t, k _ _ (.inl rfl) e, c⟩
  | ins C dx fs =>
    obtain ⟨d, z, ne, e, mA, ⟨od, es, ep, e2, c⟩, r⟩ := x
    exact ⟨ho _ d, z, ne, k _ _ (.inl rfl) e, mA, ⟨od, es, ep, k _ _ (.inr d) e2, c⟩, r⟩
  | own y => obtain ⟨ob, e⟩ := x; exact ⟨ob, k _ _ (.inl rfl) e⟩
  | xd fs => obtain ⟨mA, ⟨od, es, ep, e, c⟩, r⟩ := x; exact ⟨mA, ⟨od, es, ep, k _ _ (.inl rfl) e, c⟩, r⟩
  | rng lo hi => obtain ⟨t, u, v, e⟩ := x; exact ⟨t, u, v, k _ _ (.inl rfl) e⟩
  | frz ob u ih => obtain ⟨e, q⟩ := x; exact ⟨k _ _ (.inl rfl) e, ih q⟩
  | tbl ps =>
    have e : h.get? a = some { cls := .none, data := .fields ps } := x
    show h'.get? a = some { cls := .none, data := .fields ps }
    exact k a _ (.inl rfl) e
  | met f y =>
    have e : h.get? a = some (PySem.W.methodObj (.ref f) (.ref y)) := x
    show h'.get? a = some (PySem.W.methodObj (.ref f) (.ref y))
    exact k a _ (.inl rfl) e
  | ext φ => obtain ⟨p, ⟨o, e⟩, st⟩ := x; exact ⟨st _ _ p fun o q => k _ _ (.inl rfl) q, ⟨o, k _ _ (.inl rfl) e⟩, st⟩
theorem HOk.lt (x : HOk P w H h) (e : H a = some o) : a < h.objs.size := (x a o e).lt
theorem HOk.fresh (x : HOk P w H h) (e : h.objs.size ≤ a) : H a = none := by
  cases q : H a with
  | none => rfl
  | some u => exact absurd (Nat.lt_of_lt_of_le (x.lt q) e) (Nat.lt_irrefl _)
theorem HOk.kept (x : HOk P w H h) (k : ∀ b u, h.get? b = some u → h'.get? b = some u) : HOk P w H h' := fun a o e =>
  (x a o e).stay (fun b u _ q => k b u q) (fun _ q => q) fun _ _ q => q
theorem HOk.laid (x : HOk P w H h) (k : ∀ b u, h.get? b = some u → h'.get? b = some u) (hp : h.objs.size ≤ a) (new : ObjOk P w (upd H a o) h' a o) : HOk P w (upd H a o) h' := fun b u e => by
  have hn := x.fresh hp
  by_cases hb : b = a
  · subst hb; rw [upd_same] at e; cases e; exact new
  · rw [upd_ne hb] at e
    exact (x b u e).stay (fun c v _ q => k c v q) (fun c q => by rw [upd_ne (ne_of_none q hn)]; exact q) fun c xs q => by rw [upd_ne (ne_of_none q hn)]; exact q
end
def Rd (H : Hp) (a : Addr) (u : HO) : Prop := H a = some u ∨ ∃ o, H a = some (.frz o u)
theorem Rd.of {H : Hp} {a : Addr} {u : HO} (h : H a = some u) : Rd H a u := .inl h
theorem Rd.ok {P : Program} {w : World} {H : Hp} {h : Heap} {a : Addr} {u : HO} (r : Rd H a u) (x : HOk P w H h) : ObjOk P w H h a u := by
  rcases r with r | ⟨o, r⟩
  · exact x a u r
  · obtain ⟨_, q⟩ := x a _ r
    exact q
def Mut : Option HO → Prop
  | some (.lst _) => True
  | some (.dK _) => True
  | some (.dT _) => True
  | some (.set _ _) => True
  | some (.ins _ _ _) => True
  | some (.ext _) => True
  | _ => False
section
variable {P : Program} {w : World} {H : Hp} {h h' : Heap} {x e : Addr} {o' : HO}
theorem HOk.write (ok : HOk P w H h) (mu : Mut (H x)) (he : e = x ∨ H e = some (.own x)) (k : ∀ b u, b ≠ e → h.get? b = some u → h'.get? b = some u) (heo : ∃ u, h'.get? e = some u)
    (new : ObjOk P w (upd H x o') h' x o') : HOk P w (upd H x o') h' := fun b u q => by
  have nown : ∀ c y, H c = some (.own y) → c ≠ x := fun c y r z => by subst z; rw [r] at mu; exact mu
  have ntup : ∀ c xs, H c = some (.tup xs) → c ≠ x := fun c xs r z => by subst z; rw [r] at mu; exact mu
  by_cases hb : b = x
  · subst hb; rw [upd_same] at q; cases q; exact new
  · rw [upd_ne hb] at q
    by_cases hbe : b = e
    · have q' : H b = some (.own x) := by
        rcases he with z | z
        · exact absurd (hbe.trans z) hb
        · rw [hbe]; exact z
      rw [q] at q'; cases q'
      obtain ⟨v, hv⟩ := heo
      exact ⟨v, by rw [hbe]; exact hv⟩
    · refine (ok b u q).stay (fun c v hc r => k c v ?_ r) (fun c r => by rw [upd_ne (nown c b r)]; exact r) fun c xs r => by rw [upd_ne (ntup c xs r)]; exact r
      rcases hc with rfl | hc
      · exact hbe
      · rintro rfl
        rcases he with z | z
        · exact nown c b hc z
        · rw [hc] at z; cases z; exact hb rfl
end
structure Un (fs ex : List Addr) (H H' : Hp) (h h' : Heap) : Prop where
  keep : ∀ b o, h.get? b = some o → H b = none → b ∉ fs → b ∉ ex → h'.get? b = some o
  slot : ∀ b o, h.get? b = some o → H b = none → b ∈ fs → b ∉ ex → ∃ sl, h'.get? b = some { o with slots := sl }
  free : ∀ b o, h.get? b = some o → H b = none → b ∉ ex → H' b = none
  there : ∀ b o, h.get? b = some o → b ∉ ex → ∃ o', h'.get? b = some o'
  tups : ∀ b xs, H b = some (.tup xs) → H' b = some (.tup xs)
  frzs : ∀ b o u, H b = some (.frz o u) → H' b = some (.frz o u)
  tbls : ∀ b ps, H b = some (.tbl ps) → ∃ more, H' b = some (.tbl (ps ++ more))
section
variable {fs fs' ex ex' : List Addr} {H H1 H2 : Hp} {h h1 h2 h' : Heap} {a x e : Addr} {o : HO}
theorem Un.any (u : Un fs ex H H1 h h1) {b : Addr} {ob : Obj} (q : h.get? b = some ob) (n : H b = none) (hx : b ∉ ex) : ∃ sl, h1.get? b = some { ob with slots := sl } := by
  by_cases hb : b ∈ fs
  · exact u.slot b ob q n hb hx
  · exact ⟨ob.slots, u.keep b ob q n hb hx⟩
theorem Un.trans (a : Un fs ex H H1 h h1) (b : Un fs ex H1 H2 h1 h2) : Un fs ex H H2 h h2 where
  keep := fun c ob q n hc hx => b.keep c ob (a.keep c ob q n hc hx) (a.free c ob q n hx) hc hx
  slot := fun c ob q n hc hx => by
    obtain ⟨sl, e1⟩ := a.slot c ob q n hc hx
    obtain ⟨sl', e2⟩ := b.slot c _ e1 (a.free c ob q n hx) hc hx
    exact ⟨sl', e2⟩
  free := fun c ob q n hx => by
    obtain ⟨o', e1⟩ := a.there c ob q hx
    exact b.free c o' e1 (a.free c ob q n hx) hx
  there := fun c ob q hx => by
    obtain ⟨o', e1⟩ := a.there c ob q hx
    exact b.there c o' e1 hx
  tups := fun c xs q => b.tups c xs (a.tups c xs q)
  frzs := fun c ob xs q => b.frzs c ob xs (a.frzs c ob xs q)
  tbls := fun c ps q => by
    obtain ⟨m1, e1⟩ := a.tbls c ps q
    obtain ⟨m2, e2⟩ := b.tbls c _ e1
    exact ⟨m1 ++ m2, by rw [e2, Array.append_assoc]⟩
theorem Un.kept (k : ∀ b u, h.get? b = some u → h'.get? b = some u) : Un fs ex H H h h' :=
  ⟨fun b ob q _ _ _ => k b ob q, fun b ob q _ _ _ => ⟨ob.slots, k b ob q⟩, fun _ _ _ n _ => n, fun b ob q _ => ⟨ob, k b ob q⟩, fun _ _ q => q, fun _ _ _ q => q, fun _ ps q => ⟨#[], by rw [q]; simp⟩⟩
theorem Un.refl : Un fs ex H H h h := Un.kept fun _ _ q => q
theorem Un.laid (k : ∀ b u, h.get? b = some u → h'.get? b = some u) (hp : h.objs.size ≤ a) (hn : H a = none) : Un fs ex H (upd H a o) h h' where
  keep := fun b u q _ _ _ => k b u q
  slot := fun b u q _ _ _ => ⟨u.slots, k b u q⟩
  free := fun b u q n _ => by rw [upd_ne (Nat.ne_of_lt (Nat.lt_of_lt_of_le (Heap.lt_size q) hp))]; exact n
  there := fun b u q _ => ⟨u, k b u q⟩
  tups := fun b xs q => by rw [upd_ne (ne_of_none q hn)]; exact q
  frzs := fun b u xs q => by rw [upd_ne (ne_of_none q hn)]; exact q
  tbls := fun b ps q => ⟨#[], by rw [upd_ne (ne_of_none q hn), q]; simp⟩
theorem Un.write (mu : Mut (H x)) (he : e = x ∨ H e = some (.own x)) (k : ∀ b u, b ≠ e → h.get? b = some u → h'.get? b = some u) (heo : ∃ u, h'.get? e = some u) : Un fs ex H (upd H x o) h h' := by
  have hx : ∀ b, H b = none → b ≠ x := fun b n z => by subst z; rw [n] at mu; exact mu
  have hb : ∀ b, H b = none → b ≠ e := fun b n z => by
    subst z
    rcases he with r | r
    · exact hx b n r
    · rw [n] at r; cases r
  have hm : ∀ b u, H b = some u → ¬ Mut (some u) → b ≠ x := fun b u q nm z => by subst z; rw [q] at mu; exact nm mu
  refine ⟨fun b u q n _ _ => k b u (hb b n) q, fun b u q n _ _ => ⟨u.slots, k b u (hb b n) q⟩, fun b u q n _ => by rw [upd_ne (hx b n)]; exact n, fun b u q _ => ?_,
    fun b xs q => by rw [upd_ne (hm b _ q fun z => z)]; exact q, fun b u xs q => by rw [upd_ne (hm b _ q fun z => z)]; exact q, fun b ps q => ⟨#[], by rw [upd_ne (hm b _ q fun z => z), q]; simp⟩⟩
  by_cases hbe : b = e
  · subst hbe; exact heo
  · exact ⟨u, k b u hbe q⟩
theorem Un.mono (u : Un fs ex H H1 h h1) (hs : ∀ b ∈ fs, b ∈ fs') (hx : ∀ b ∈ ex, b ∈ ex') : Un fs' ex' H H1 h h1 :=
  ⟨fun b ob q n hb he => u.keep b ob q n (fun z => hb (hs b z)) fun z => he (hx b z), fun _ _ q n _ he => u.any q n fun z => he (hx _ z), fun b ob q n he => u.free b ob q n fun z => he (hx b z), fun b ob q he => u.there b ob q fun z => he (hx b z), u.tups, u.frzs, u.tbls⟩
end
def trk (h : Heap) (H : Hp) : List Addr := (List.range h.objs.size).filter fun a => (H a).isSome
def hidT (h : Heap) (H : Hp) : Heap := PySem.W.hideAll h (trk h H)
theorem hidT_size (h : Heap) (H : Hp) : (hidT h H).objs.size = h.objs.size := PySem.W.hideAll_size _ _
theorem hidT_get {h : Heap} {H : Hp} {b : Addr} {o : Obj} (e : h.get? b = some o) (n : H b = none) : (hidT h H).get? b = some o :=
  PySem.W.hideAll_get _ e fun hm => by
    have q : (H b).isSome = true := (List.mem_filter.mp hm).2
    rw [n] at q; simp at q
theorem of_hidT {h : Heap} {H : Hp} {b : Addr} {o : Obj} (e : (hidT h H).get? b = some o) : h.get? b = some o ∧ H b = none := by
  have e' : h.get? b = some o := PySem.W.of_hideAll (trk h H) e
  refine ⟨e', ?_⟩
  cases q : H b with
  | none => rfl
  | some x =>
    have hm : b ∈ trk h H := List.mem_filter.mpr ⟨List.mem_range.mpr (Heap.lt_size e'), by simp [q]⟩
    have z : (hidT h H).get? b = none := PySem.W.hideAll_none (trk h H) hm
    rw [z] at e; cases e
def allNews (g h : Heap) (L : Addr) : List (Addr × Obj) := (List.range h.objs.size).filterMap fun a => if a = L ∨ (g.get? a).isSome = true then none else (h.get? a).map fun o => (a, o)
def rest (g h : Heap) (L d : Addr) : List (Addr × Obj) := (allNews g h L).filter fun p => decide (p.1 ≠ d)
end L2
namespace L2
open PySem PySem.Spec PyProof.Rows
structure Mod (K : PySem.W.Frag) (mg : Str → Option Value) (base : Heap) : Prop where
  kin : K.In base
  glob : base.Ns mainGlobals mg
  blt : ∃ mb, base.Ns builtinsNs mb ∧ ∀ x : Str, x ≠ "__name__" → mb x = bootBuiltins x
  nolimit : base.NoLimit
structure Cx where
  prog : Program
  w : World
  K : PySem.W.Frag
  mg : Str → Option Value
  base : Heap
  A : Around
  N : List Str
  s₀ : Shared
  H₀ : Hp
  env : Env
  outer : List Env
  stack : List Env
  ex : List Addr
  fn : Str → Bool
  calm : Bool
  pn : List (Addr × Obj)
  xe : Value → Shared → Prop
def frs (l : List Env) : List Addr := l.filterMap (·.frame)
abbrev Cx.fs (X : Cx) : List Addr := frs X.outer
def Vis (sc : Scope) (x : Str) : Prop := sc.names.lookup x = some .local ∨ sc.names.lookup x = some .cell ∨ sc.names.lookup x = some .free
def Loc (sc : Scope) (x : Str) : Prop := sc.names.lookup x = some .local ∨ sc.names.lookup x = some .cell
def Look (env : Env) (h : Heap) (m : Str → Option Value) (x : Str) (u : Value) : Prop :=
  (env.kindOf x = some .local ∧ m x = some u) ∨ ((env.kindOf x = some .cell ∨ env.kindOf x = some .free) ∧ ∃ c, env.cells.lookup x = some c ∧ h.IsCell c (some u))
structure Cx.Ok (X : Cx) : Prop where
  mod : Mod X.K X.mg X.base
  kind : X.env.scope.kind = .function
  glob : X.env.globals = mainGlobals
  blt : X.env.builtins = builtinsNs
  above : X.s₀.heap.objs.size ≤ X.env.locals
  inj : ∀ x y c, X.env.cells.lookup x = some c → X.env.cells.lookup y = some c → x = y
  has : ∀ x, (X.env.kindOf x = some .cell ∨ X.env.kindOf x = some .free) → ∃ c, X.env.cells.lookup x = some c
  cab : ∀ x c, X.fn x = true → X.env.cells.lookup x = some c → X.s₀.heap.objs.size ≤ c
  hd : X.calm = true → X.A.handled = none
  frames : X.A.frames = some X.stack
  stk : X.stack = X.outer ∨ (X.stack = X.env :: X.outer ∧ X.env.frame = some X.env.locals)
  exf : ∀ b ∈ X.ex, b ≠ X.env.locals ∧ ∀ x c, X.env.cells.lookup x = some c → c ≠ b
  bs : ∀ b o, X.base.get? b = some o → X.s₀.heap.get? b = some o ∧ X.H₀ b = none
  bsz : X.base.objs.size ≤ X.s₀.heap.objs.size
  noex : ∀ b o, X.base.get? b = some o → b ∉ X.ex
  exfs : ∀ b ∈ X.ex, b ∉ X.fs
  funs : X.s₀.heap.FunFrames X.base X.outer
  frf : ∀ b ∈ X.fs, X.H₀ b = none
structure Inv (X : Cx) (pins : List (Addr × Obj)) (σ : List (Option V)) (H : Hp) (s : Shared) : Prop where
  ok : X.Ok
  os : s.os = X.s₀.os
  bare : AllBare s.gens
  base : Un X.fs X.ex X.H₀ H X.s₀.heap s.heap
  loc : ∃ m, s.heap.Ns X.env.locals m ∧ ∀ (i : Nat) (x : Str) (v : V), X.N[i]? = some x → σ[i]? = some (some v) → Vis X.env.scope x → ∃ u, RelV v u ∧ Look X.env s.heap m x u
  cell : ∀ x c, X.env.cells.lookup x = some c → ∃ v, s.heap.IsCell c v
  free : H X.env.locals = none
  freeC : ∀ x c, X.env.cells.lookup x = some c → H c = none
  pin : ∀ p ∈ X.pn ++ pins, s.heap.get? p.1 = some p.2 ∧ H p.1 = none ∧ p.1 ≠ X.env.locals ∧ p.1 ∉ X.fs ∧ ∀ v, p.2.data ≠ .cell v
  hok : HOk X.prog X.w H s.heap
  len : σ.length = X.N.length
section
variable {X : Cx} {pins : List (Addr × Obj)} {σ : List (Option V)} {H H' : Hp} {s : Shared} {h' : Heap}
theorem Cx.Ok.nofr (ok : X.Ok) {b : Addr} {o : Obj} (e : X.base.get? b = some o) : b ∉ X.fs := fun hb => by
  have := (ok.funs.mem hb).1
  rw [e] at this; cases this
theorem Inv.bs (I : Inv X pins σ H s) : ∀ b o, X.base.get? b = some o → s.heap.get? b = some o ∧ H b = none := fun b o e =>
  ⟨I.base.keep b o (I.ok.bs b o e).1 (I.ok.bs b o e).2 (I.ok.nofr e) (I.ok.noex b o e), I.base.free b o (I.ok.bs b o e).1 (I.ok.bs b o e).2 (I.ok.noex b o e)⟩
theorem Inv.bk (I : Inv X pins σ H s) : ∀ b o, X.base.get? b = some o → s.heap.get? b = some o := fun b o e => (I.bs b o e).1
theorem Inv.mod (I : Inv X pins σ H s) : Mod X.K X.mg X.base := I.ok.mod
theorem Inv.kIn (I : Inv X pins σ H s) : X.K.In s.heap := I.ok.mod.kin.keeps I.bk
theorem Inv.nolimit (I : Inv X pins σ H s) : s.heap.NoLimit := I.ok.mod.nolimit.keeps I.bk
theorem Inv.fr (I : Inv X pins σ H s) : ∃ m, Fr X.base X.env.locals s.heap m :=
  let ⟨m, hn, _⟩ := I.loc
  ⟨m, hn, I.bk, Nat.le_trans I.ok.bsz I.ok.above⟩
theorem Inv.lt (I : Inv X pins σ H s) : X.env.locals < s.heap.objs.size := let ⟨_, hn, _⟩ := I.loc; hn.lt
theorem Inv.sz (I : Inv X pins σ H s) : X.s₀.heap.objs.size ≤ s.heap.objs.size := Nat.le_trans I.ok.above (Nat.le_of_lt I.lt)
theorem Inv.nofs (I : Inv X pins σ H s) {a : Addr} (h : s.heap.objs.size ≤ a) : a ∉ X.fs := fun hb => by
  obtain ⟨_, o, ho, _⟩ := I.ok.funs.mem hb
  exact absurd (Nat.lt_of_lt_of_le (Heap.lt_size ho) (Nat.le_trans I.sz h)) (Nat.lt_irrefl _)
theorem Inv.cne (I : Inv X pins σ H s) : ∀ x c, X.env.cells.lookup x = some c → c ≠ X.env.locals := fun x c e z => by
  obtain ⟨v, o, ho, hd⟩ := I.cell x c e
  obtain ⟨m, ⟨o', es, ep, ho', hd', _⟩, _⟩ := I.loc
  rw [z, ho'] at ho; cases ho; rw [hd'] at hd; cases hd
theorem Inv.funs (I : Inv X pins σ H s) : s.heap.FunFrames X.base X.outer := by
  have all : ∀ (l : List Env), (∀ b ∈ frs l, b ∈ X.fs) → X.s₀.heap.FunFrames X.base l → s.heap.FunFrames X.base l := by
    intro l
    induction l with
    | nil => intro _ _; trivial
    | cons env r ih =>
      intro hs hl
      obtain ⟨hk, ⟨L, o, hf, hn, ho, hd⟩, hr⟩ := hl
      have hL : L ∈ X.fs := hs L (by unfold frs; rw [List.filterMap_cons, hf]; exact List.mem_cons_self)
      obtain ⟨sl, e⟩ := I.base.slot L o ho (I.ok.frf L hL) hL fun z => I.ok.exfs L z hL
      exact ⟨hk, ⟨L, _, hf, hn, e, hd⟩, ih (fun b hb => hs b (by unfold frs; rw [List.filterMap_cons, hf]; exact List.mem_cons_of_mem _ hb)) hr⟩
  exact all X.outer (fun _ hb => hb) I.ok.funs
theorem Inv.stack (I : Inv X pins σ H s) : s.heap.FunFrames X.base X.stack := by
  rcases I.ok.stk with e | ⟨e, hf⟩
  · rw [e]; exact I.funs
  · rw [e]
    obtain ⟨m, hn, _⟩ := I.loc
    refine .cons (by rw [I.ok.kind]; decide) hf hn ?_ I.funs
    exact Heap.get?_none_of_le (Nat.le_trans I.ok.bsz I.ok.above)
theorem Inv.stkSub (I : Inv X pins σ H s) : ∀ b ∈ frs X.stack, b ∈ X.env.locals :: X.fs := fun b hb => by
  rcases I.ok.stk with e | ⟨e, hf⟩
  · rw [e] at hb; exact List.mem_cons_of_mem _ hb
  · rw [e] at hb
    unfold frs at hb
    rw [List.filterMap_cons, hf] at hb
    exact hb
theorem Inv.stkFree (I : Inv X pins σ H s) : ∀ b ∈ frs X.stack, H b = none := fun b hb => by
  rcases List.mem_cons.mp (I.stkSub b hb) with e | hb
  · rw [e]; exact I.free
  · obtain ⟨_, o, ho, _⟩ := I.ok.funs.mem hb
    exact I.base.free b o ho (I.ok.frf b hb) fun z => I.ok.exfs b z hb
theorem Inv.step {g' : Array GenState} {t' : Nat} {d' : Drawn} {ch : List Addr} (I : Inv X pins σ H s)
    (hch : ∀ b ∈ ch, (b ∈ X.ex ∨ X.s₀.heap.objs.size ≤ b) ∧ b ≠ X.env.locals ∧ (∀ x c, X.env.cells.lookup x = some c → c ≠ b) ∧ ∀ p ∈ X.pn ++ pins, p.1 ≠ b)
    (keep : ∀ b o, b ≠ X.env.locals → b ∉ X.fs → b ∉ ch → s.heap.get? b = some o → H b = none → h'.get? b = some o)
    (slot : ∀ b o, b ≠ X.env.locals → b ∈ X.fs → b ∉ ch → s.heap.get? b = some o → H b = none → ∃ sl, h'.get? b = some { o with slots := sl }) (free : ∀ b o, b ∉ ch → s.heap.get? b = some o → H b = none → H' b = none)
    (there : ∀ b o, b ∉ ch → s.heap.get? b = some o → ∃ o', h'.get? b = some o')
    (tups : ∀ b xs, H b = some (.tup xs) → H' b = some (.tup xs)) (frzs : ∀ b o u, H b = some (.frz o u) → H' b = some (.frz o u)) (tbls : ∀ b ps, H b = some (.tbl ps) → ∃ more, H' b = some (.tbl (ps ++ more)))
    (ns : ∀ m, s.heap.Ns X.env.locals m → h'.Ns X.env.locals m) (hok : HOk X.prog X.w H' h') (hg : AllBare g') :
    Inv X pins σ H' { s with heap := h', gens := g', drawn := d', toks := t' } := by
  have neL : ∀ b o, X.s₀.heap.get? b = some o → b ≠ X.env.locals := fun b o e => Nat.ne_of_lt (Nat.lt_of_lt_of_le (Heap.lt_size e) I.ok.above)
  have neC : ∀ b o, X.s₀.heap.get? b = some o → b ∉ X.ex → b ∉ ch := fun b o e hx hb => by
    rcases (hch b hb).1 with z | z
    · exact hx z
    · exact absurd (Nat.lt_of_lt_of_le (Heap.lt_size e) z) (Nat.lt_irrefl _)
  have cellK : ∀ x c, X.env.cells.lookup x = some c → ∀ v, s.heap.IsCell c v → h'.IsCell c v := fun x c e v ⟨o, ho, hd⟩ => by
    have nch : c ∉ ch := fun z => (hch c z).2.2.1 x c e rfl
    by_cases hc : c ∈ X.fs
    · obtain ⟨sl, q⟩ := slot c o (I.cne x c e) hc nch ho (I.freeC x c e)
      exact ⟨_, q, hd⟩
    · exact ⟨o, keep c o (I.cne x c e) hc nch ho (I.freeC x c e), hd⟩
  refine ⟨I.ok, I.os, hg, ⟨fun b o e n hb hx => ?_, fun b o e n hb hx => ?_, fun b o e n hx => ?_, fun b o e hx => ?_, fun b xs e => tups b xs (I.base.tups b xs e), fun b o xs e => frzs b o xs (I.base.frzs b o xs e), fun b ps e => ?_⟩, ?_, fun x c e => ?_, ?_, fun x c e => ?_, fun p hp => ?_, hok, I.len⟩
  · exact keep b o (neL b o e) hb (neC b o e hx) (I.base.keep b o e n hb hx) (I.base.free b o e n hx)
  · obtain ⟨sl, e1⟩ := I.base.slot b o e n hb hx
    obtain ⟨sl', e2⟩ := slot b _ (neL b o e) hb (neC b o e hx) e1 (I.base.free b o e n hx)
    exact ⟨sl', e2⟩
  · obtain ⟨o', e1⟩ := I.base.there b o e hx
    exact free b o' (neC b o e hx) e1 (I.base.free b o e n hx)
  · obtain ⟨o', e1⟩ := I.base.there b o e hx
    exact there b o' (neC b o e hx) e1
  · obtain ⟨m1, e1⟩ := I.base.tbls b ps e
    obtain ⟨m2, e2⟩ := tbls b _ e1
    exact ⟨m1 ++ m2, by rw [e2, Array.append_assoc]⟩
  · obtain ⟨m, hn, hl⟩ := I.loc
    refine ⟨m, ns m hn, fun i x v e1 e2 e3 => ?_⟩
    obtain ⟨u, r, l⟩ := hl i x v e1 e2 e3
    refine ⟨u, r, ?_⟩
    rcases l with l | ⟨k, c, e, z⟩
    · exact .inl l
    · exact .inr ⟨k, c, e, cellK x c e _ z⟩
  · obtain ⟨v, z⟩ := I.cell x c e
    exact ⟨v, cellK x c e v z⟩
  · obtain ⟨m, ⟨o, _, _, ho, _⟩, _⟩ := I.loc
    exact free _ o (fun z => (hch _ z).2.1 rfl) ho I.free
  · obtain ⟨v, o, ho, hd⟩ := I.cell x c e
    exact free c o (fun z => (hch c z).2.2.1 x c e rfl) ho (I.freeC x c e)
  · obtain ⟨e, n, ne, nf, d⟩ := I.pin p hp
    have nch : p.1 ∉ ch := fun z => (hch p.1 z).2.2.2 p hp rfl
    exact ⟨keep p.1 p.2 ne nf nch e n, free p.1 p.2 nch e n, ne, nf, d⟩
theorem Inv.un {t' : Nat} (I : Inv X pins σ H s) (u : Un X.fs [] H H' s.heap h') (hok : HOk X.prog X.w H' h') : Inv X pins σ H' { s with heap := h', toks := t' } := by
  obtain ⟨m, ⟨o, es, ep, ho, r⟩, _⟩ := id I.loc
  obtain ⟨sl, hL⟩ := u.any ho I.free (by simp)
  exact I.step (g' := s.gens) (d' := s.drawn) (ch := []) (fun _ z => nomatch z) (fun b o _ hb _ e n => u.keep b o e n hb (by simp)) (fun b o _ hb _ e n => u.slot b o e n hb (by simp)) (fun b o _ e n => u.free b o e n (by simp)) (fun b o _ e => u.there b o e (by simp)) u.tups u.frzs u.tbls (fun m' hm => by
    obtain ⟨o', es', ep', ho', r'⟩ := hm
    rw [ho] at ho'; cases ho'
    exact ⟨_, es', ep', hL, r'⟩) hok I.bare
theorem Inv.call {g' : Array GenState} {t' : Nat} {d' : Drawn} {ch : List Addr} (I : Inv X pins σ H s) (u : Un (frs X.stack) ch H H' s.heap h') (hok : HOk X.prog X.w H' h') (hg : AllBare g')
    (hch : ∀ b ∈ ch, (b ∈ X.ex ∨ X.s₀.heap.objs.size ≤ b) ∧ b ≠ X.env.locals ∧ (∀ x c, X.env.cells.lookup x = some c → c ≠ b) ∧ ∀ p ∈ X.pn ++ pins, p.1 ≠ b) :
    Inv X pins σ H' { s with heap := h', gens := g', drawn := d', toks := t' } := by
  obtain ⟨m, ⟨o, es, ep, ho, r⟩, _⟩ := id I.loc
  obtain ⟨sl, hL⟩ := u.any ho I.free fun z => (hch _ z).2.1 rfl
  exact I.step (ch := ch) hch (fun b o hL hb hc e n => u.keep b o e n (fun z => (List.mem_cons.mp (I.stkSub b z)).elim hL hb) hc) (fun b o _ _ hc e n => u.any e n hc) (fun b o hc e n => u.free b o e n hc) (fun b o hc e => u.there b o e hc) u.tups u.frzs u.tbls (fun m' hm => by
    obtain ⟨o', es', ep', ho', r'⟩ := hm
    rw [ho] at ho'; cases ho'
    exact ⟨_, es', ep', hL, r'⟩) hok hg
theorem Inv.turned {t' : Nat} {it : Addr} (I : Inv X pins σ H s) (k : ∀ b o, b ≠ it → s.heap.get? b = some o → h'.get? b = some o) (hn : H it = none) (hL : it ≠ X.env.locals)
    (h1 : it ∈ X.ex ∨ X.s₀.heap.objs.size ≤ it) (h2 : ∀ x c, X.env.cells.lookup x = some c → c ≠ it) (h3 : ∀ p ∈ X.pn ++ pins, p.1 ≠ it) : Inv X pins σ H { s with heap := h', toks := t' } := by
  have nit : ∀ b u, H b = some u → b ≠ it := fun b u e z => by rw [z, hn] at e; cases e
  refine I.step (g' := s.gens) (d' := s.drawn) (ch := [it]) (fun b hb => ?_) (fun b o _ _ hc e _ => k b o (fun z => hc (by simp [z])) e) (fun b o _ _ hc e _ => ⟨o.slots, k b o (fun z => hc (by simp [z])) e⟩) (fun _ _ _ _ n => n)
    (fun b o hc e => ⟨o, k b o (fun z => hc (by simp [z])) e⟩) (fun _ _ e => e) (fun _ _ _ e => e) (fun b ps e => ⟨#[], by rw [e]; simp⟩) (fun m hm => ?_) (fun b u e => ?_) I.bare
  · have e : b = it := by simpa using hb
    subst e
    exact ⟨h1, hL, h2, h3⟩
  · obtain ⟨o, es, ep, ho, r⟩ := hm
    exact ⟨o, es, ep, k _ o (Ne.symm hL) ho, r⟩
  · refine (I.hok b u e).stay (fun c v hc q => k c v ?_ q) (fun _ q => q) fun _ _ q => q
    rcases hc with z | z
    · rw [z]; exact nit b u e
    · exact nit c _ z
theorem Inv.tok (I : Inv X pins σ H s) (t : Nat) : Inv X pins σ H { s with toks := t } := I.un (h' := s.heap) (t' := t) Un.refl I.hok
theorem Inv.kept {t' : Nat} (I : Inv X pins σ H s) (k : ∀ b u, s.heap.get? b = some u → h'.get? b = some u) : Inv X pins σ H { s with heap := h', toks := t' } := I.un (Un.kept k) (I.hok.kept k)
theorem Inv.laid {a : Addr} {o : HO} {t' : Nat} (I : Inv X pins σ H s) (k : ∀ b u, s.heap.get? b = some u → h'.get? b = some u) (hp : s.heap.objs.size ≤ a) (new : ObjOk X.prog X.w (upd H a o) h' a o) :
    Inv X pins σ (upd H a o) { s with heap := h', toks := t' } := I.un (Un.laid k hp (I.hok.fresh hp)) (I.hok.laid k hp new)
theorem Inv.write {x e : Addr} {o : HO} {t' : Nat} (I : Inv X pins σ H s) (mu : Mut (H x)) (he : e = x ∨ H e = some (.own x)) (k : ∀ b u, b ≠ e → s.heap.get? b = some u → h'.get? b = some u) (heo : ∃ u, h'.get? e = some u)
    (new : ObjOk X.prog X.w (upd H x o) h' x o) : Inv X pins σ (upd H x o) { s with heap := h', toks := t' } := I.un (Un.write mu he k heo) (I.hok.write mu he k heo new)
theorem Inv.weak {σ' : List (Option V)} (I : Inv X pins σ H s) (hl : σ'.length = σ.length) (w : ∀ (i : Nat) v, σ'[i]? = some (some v) → σ[i]? = some (some v)) : Inv X pins σ' H s :=
  ⟨I.ok, I.os, I.bare, I.base, let ⟨m, hn, hl'⟩ := I.loc; ⟨m, hn, fun i x v e1 e2 e3 => hl' i x v e1 (w i v e2) e3⟩, I.cell, I.free, I.freeC, I.pin, I.hok, hl.trans I.len⟩
theorem Inv.pins_of {pins' : List (Addr × Obj)} (I : Inv X pins σ H s) (h : ∀ p ∈ pins', s.heap.get? p.1 = some p.2 ∧ H p.1 = none ∧ p.1 ≠ X.env.locals ∧ p.1 ∉ X.fs ∧ ∀ v, p.2.data ≠ .cell v) : Inv X pins' σ H s :=
  ⟨I.ok, I.os, I.bare, I.base, I.loc, I.cell, I.free, I.freeC, fun p hp => (List.mem_append.mp hp).elim (fun z => I.pin p (List.mem_append_left _ z)) (h p), I.hok, I.len⟩
theorem nodup_ix {N : List Str} (hN : N.Nodup) {i j : Nat} {x : Str} (a : N[i]? = some x) (b : N[j]? = some x) : i = j := by
  obtain ⟨h1, e1⟩ := List.getElem?_eq_some_iff.mp a
  obtain ⟨h2, e2⟩ := List.getElem?_eq_some_iff.mp b
  exact (List.getElem_inj hN).mp (e1.trans e2.symm)
theorem store_ok2 {M : Model} {A : Around} {E : Value → Shared → Prop} {i : Nat} {x : Str} {v : V} {u : Value} {Q : Unit → Shared → Prop} (I : Inv X pins σ H s) (hN : X.N.Nodup) (hi : X.N[i]? = some x) (hx : Loc X.env.scope x) (r : RelV v u)
    (h : ∀ s', Inv X pins (σ.set i (some v)) H s' → (∃ a, Heap.SameBut a s.heap s'.heap ∧ (a = X.env.locals ∨ X.env.cells.lookup x = some a)) → Q () s') (hf : X.fn x = true ∨ X.env.scope.names.lookup x = some .local := by first | exact .inl rfl | exact .inr rfl | assumption) : wpAny M A (storeName X.env x u) Q E s := by
  obtain ⟨m, hn, hl⟩ := id I.loc
  have hcls : (X.env.scope.kind == .class || (X.env.scope.kind == .module && X.env.locals != X.env.globals)) = false := by rw [I.ok.kind]; rfl
  have hiσ : i < σ.length := by rw [I.len]; exact (List.getElem?_eq_some_iff.mp hi).1
  have cne := I.cne
  have tracked : ∀ {a : Addr} {h' : Heap}, (∃ o, s.heap.get? a = some o ∧ H a = none) → Heap.SameBut a s.heap h' → HOk X.prog X.w H h' := fun {a h'} ha hs b ob e => by
    obtain ⟨_, _, hfree⟩ := ha
    refine (I.hok b ob e).stay (fun c w' hc q => (hs.2 c ?_).trans q) (fun _ q => q) fun _ _ q => q
    rintro rfl
    rcases hc with rfl | hc
    · rw [hfree] at e; cases e
    · rw [hfree] at hc; cases hc
  rcases hx with hk | hk
  · refine wpAny_storeName_local hk hn (fun h' hn' hs => ?_) hcls
    obtain ⟨oL, _, _, hoL, _⟩ := id hn
    refine h _ ⟨I.ok, I.os, I.bare, ⟨fun b o e n hb hx => ?_, fun b o e n hb hx => ?_, I.base.free, fun b o e hx => ?_, I.base.tups, I.base.frzs, I.base.tbls⟩, ⟨_, hn', fun j y v' e1 e2 e3 => ?_⟩, fun y c e => ?_, I.free, I.freeC, fun p hp => ?_, tracked ⟨oL, hoL, I.free⟩ hs, by simpa using I.len⟩ ⟨_, hs, .inl rfl⟩
    · exact (hs.2 b (Nat.ne_of_lt (Nat.lt_of_lt_of_le (Heap.lt_size e) I.ok.above))).trans (I.base.keep b o e n hb hx)
    · obtain ⟨sl, e1⟩ := I.base.slot b o e n hb hx
      exact ⟨sl, (hs.2 b (Nat.ne_of_lt (Nat.lt_of_lt_of_le (Heap.lt_size e) I.ok.above))).trans e1⟩
    · obtain ⟨o', e1⟩ := I.base.there b o e hx
      exact ⟨o', (hs.2 b (Nat.ne_of_lt (Nat.lt_of_lt_of_le (Heap.lt_size e) I.ok.above))).trans e1⟩
    · by_cases hj : j = i
      · subst hj
        rw [hi] at e1; cases e1
        rw [List.getElem?_set_self hiσ] at e2
        cases e2
        exact ⟨u, r, .inl ⟨hk, by simp⟩⟩
      · rw [List.getElem?_set_ne (Ne.symm hj)] at e2
        obtain ⟨u', r', q⟩ := hl j y v' e1 e2 e3
        refine ⟨u', r', ?_⟩
        rcases q with ⟨k, e⟩ | ⟨k, c, e, z⟩
        · refine .inl ⟨k, ?_⟩
          have : y ≠ x := fun e => hj (nodup_ix hN e1 (e ▸ hi))
          simp [this, e]
        · exact .inr ⟨k, c, e, z.sameBut hs (cne y c e)⟩
    · obtain ⟨w', z⟩ := I.cell y c e
      exact ⟨w', z.sameBut hs (cne y c e)⟩
    · obtain ⟨e, n, ne, nf, d⟩ := I.pin p hp
      exact ⟨(hs.2 p.1 ne).trans e, n, ne, nf, d⟩
  · have hfn : X.fn x = true := by
      rcases hf with z | z
      · exact z
      · rw [z] at hk; cases hk
    obtain ⟨c, hc⟩ := I.ok.has x (.inl hk)
    obtain ⟨w', z⟩ := I.cell x c hc
    refine wpAny_storeName_cell I.ok.kind hk hc z (fun h' hc' hs => ?_)
    obtain ⟨oc, hoc, hocd⟩ := id z
    refine h { s with heap := h' } ⟨I.ok, I.os, I.bare, ⟨fun b o e n hb hx => ?_, fun b o e n hb hx => ?_, I.base.free, fun b o e hx => ?_, I.base.tups, I.base.frzs, I.base.tbls⟩, ⟨m, hn.sameBut hs (Ne.symm (cne x c hc)), fun j y v' e1 e2 e3 => ?_⟩, fun y c' e => ?_, I.free, I.freeC, fun p hp => ?_, tracked ⟨oc, hoc, I.freeC x c hc⟩ hs, by simpa using I.len⟩ ⟨c, hs, .inr hc⟩
    · exact (hs.2 b (Nat.ne_of_lt (Nat.lt_of_lt_of_le (Heap.lt_size e) (I.ok.cab x c hfn hc)))).trans (I.base.keep b o e n hb hx)
    · obtain ⟨sl, e1⟩ := I.base.slot b o e n hb hx
      exact ⟨sl, (hs.2 b (Nat.ne_of_lt (Nat.lt_of_lt_of_le (Heap.lt_size e) (I.ok.cab x c hfn hc)))).trans e1⟩
    · obtain ⟨o', e1⟩ := I.base.there b o e hx
      exact ⟨o', (hs.2 b (Nat.ne_of_lt (Nat.lt_of_lt_of_le (Heap.lt_size e) (I.ok.cab x c hfn hc)))).trans e1⟩
    · by_cases hj : j = i
      · subst hj
        rw [hi] at e1; cases e1
        rw [List.getElem?_set_self hiσ] at e2
        cases e2
        exact ⟨u, r, .inr ⟨.inl hk, c, hc, hc'⟩⟩
      · rw [List.getElem?_set_ne (Ne.symm hj)] at e2
        obtain ⟨u', r', q⟩ := hl j y v' e1 e2 e3
        refine ⟨u', r', ?_⟩
        rcases q with q | ⟨k, c', e, z'⟩
        · exact .inl q
        · refine .inr ⟨k, c', e, z'.sameBut hs ?_⟩
          rintro rfl
          exact hj (nodup_ix hN e1 (I.ok.inj _ _ _ e hc ▸ hi))
    · by_cases hcc : c' = c
      · subst hcc; exact ⟨_, hc'⟩
      · obtain ⟨w2, z2⟩ := I.cell y c' e
        exact ⟨w2, z2.sameBut hs hcc⟩
    · obtain ⟨e, n, ne, nf, d⟩ := I.pin p hp
      refine ⟨(hs.2 p.1 ?_).trans e, n, ne, nf, d⟩
      intro q
      rw [q, hoc] at e
      have q' : oc = p.2 := Option.some.inj e
      exact d w' (by rw [← q']; exact hocd)
theorem store_ok {M : Model} {A : Around} {E : Value → Shared → Prop} {i : Nat} {x : Str} {v : V} {u : Value} {Q : Unit → Shared → Prop} (I : Inv X pins σ H s) (hN : X.N.Nodup) (hi : X.N[i]? = some x) (hx : Loc X.env.scope x) (r : RelV v u)
    (h : ∀ s', Inv X pins (σ.set i (some v)) H s' → Q () s') (hf : X.fn x = true ∨ X.env.scope.names.lookup x = some .local := by first | exact .inl rfl | exact .inr rfl | assumption) : wpAny M A (storeName X.env x u) Q E s :=
  store_ok2 I hN hi hx r (fun s' I' _ => h s' I') hf
theorem Inv.call' {s' : Shared} {ch : List Addr} (I : Inv X pins σ H s) (ho : s'.os = s.os) (u : Un (frs X.stack) ch H H' s.heap s'.heap) (hok : HOk X.prog X.w H' s'.heap) (hg : AllBare s'.gens)
    (hch : ∀ b ∈ ch, (b ∈ X.ex ∨ X.s₀.heap.objs.size ≤ b) ∧ b ≠ X.env.locals ∧ (∀ x c, X.env.cells.lookup x = some c → c ≠ b) ∧ ∀ p ∈ X.pn ++ pins, p.1 ≠ b) : Inv X pins σ H' s' := by
  obtain ⟨h', g', d', t', o'⟩ := s'
  have e : o' = s.os := ho
  subst e
  exact I.call (g' := g') (t' := t') (d' := d') u hok hg hch
end
abbrev XK := Value → Option Addr → Hp → Prop
abbrev St := List (Option V)
abbrev VK := V → Hp → Prop
abbrev TE := St → Hp → VK → Prop
abbrev TT := St → Hp → (Bool → Hp → Prop) → Prop
abbrev TA := St → Hp → (List V → Hp → Prop) → Prop
structure Ends where
  nx : St → Hp → Prop
  rt : VK
  bk : St → Hp → Prop := fun _ _ => False
  ct : St → Hp → Prop := fun _ _ => False
abbrev TS := Ends → St → Hp → Prop
def EP (X : Cx) (pins : List (Addr × Obj)) (σ : St) (Q : VK) (u : Value) (s' : Shared) : Prop := ∃ v H', Inv X pins σ H' s' ∧ RelV v u ∧ Q v H'
def TP (X : Cx) (pins : List (Addr × Obj)) (σ : St) (Q : Bool → Hp → Prop) (b : Bool) (s' : Shared) : Prop := ∃ H', Inv X pins σ H' s' ∧ Q b H'
def AP (X : Cx) (pins : List (Addr × Obj)) (σ : St) (Q : List V → Hp → Prop) (us : List Value) (s' : Shared) : Prop := ∃ vs H', Inv X pins σ H' s' ∧ Vals vs us ∧ Q vs H'
def SP (X : Cx) (pins : List (Addr × Obj)) (D : Ends) (f : Flow) (s' : Shared) : Prop :=
  match f with
  | .next => ∃ σ' H', Inv X pins σ' H' s' ∧ D.nx σ' H'
  | .brk => ∃ σ' H', Inv X pins σ' H' s' ∧ D.bk σ' H'
  | .cont => ∃ σ' H', Inv X pins σ' H' s' ∧ D.ct σ' H'
  | .ret u => ∃ v σ' H', Inv X pins σ' H' s' ∧ RelV v u ∧ D.rt v H'
def PE (X : Cx) (e : Expr) (t : TE) : Prop :=
  ∀ (pins : List (Addr × Obj)) (s : Shared) (σ : St) (H : Hp) (Q : VK), Inv X pins σ H s → t σ H Q → wpAny (model X.prog X.w) X.A (eval e X.env) (EP X pins σ Q) X.xe s
def PT (X : Cx) (e : Expr) (t : TT) : Prop :=
  ∀ (pins : List (Addr × Obj)) (s : Shared) (σ : St) (H : Hp) (Q : Bool → Hp → Prop), Inv X pins σ H s → t σ H Q → wpAny (model X.prog X.w) X.A (isTrue e X.env (eval e X.env)) (TP X pins σ Q) X.xe s
def PW (X : Cx) (e : Expr) (t : TT) : Prop :=
  ∀ (whole : Sem Value) (pins : List (Addr × Obj)) (s : Shared) (σ : St) (H : Hp) (Q : Bool → Hp → Prop), Inv X pins σ H s → t σ H Q → wpAny (model X.prog X.w) X.A (isTrue e X.env whole) (TP X pins σ Q) X.xe s
theorem PW.pt {X : Cx} {e : Expr} {t : TT} (h : PW X e t) : PT X e t := h _
def PA (X : Cx) (es : List Expr) (t : TA) : Prop :=
  ∀ (pos : Pos) (pins : List (Addr × Obj)) (s : Shared) (σ : St) (H : Hp) (Q : List V → Hp → Prop), Inv X pins σ H s → t σ H Q → wpAny (model X.prog X.w) X.A (spliced (backTo pos (starEach es X.env))) (AP X pins σ Q) X.xe s
def PS (X : Cx) (st : Stmt) (t : TS) : Prop :=
  ∀ (pins : List (Addr × Obj)) (s : Shared) (σ : St) (H : Hp) (D : Ends), Inv X pins σ H s → t D σ H → wpAny (model X.prog X.w) X.A (exec st X.env) (SP X pins D) X.xe s
def PSs (X : Cx) (st : List Stmt) (t : TS) : Prop :=
  ∀ (pins : List (Addr × Obj)) (s : Shared) (σ : St) (H : Hp) (D : Ends), Inv X pins σ H s → t D σ H → wpAny (model X.prog X.w) X.A (execs st X.env) (SP X pins D) X.xe s
theorem thn {α : Type} {t : Sem α} {Q Q' : α → Shared → Prop} {M : Model} {A : Around} {E : Value → Shared → Prop} {s : Shared} (h : wpAny M A t Q E s) (hQ : ∀ a s, Q a s → Q' a s) : wpAny M A t Q' E s := wpAny_mono h hQ fun _ _ x => x
end L2
namespace L2
open PySem PySem.Spec PyProof.Rows
section
variable {X : Cx}
def tVar (i : Nat) : TE := fun σ H Q => ∃ v, σ[i]? = some (some v) ∧ Q v H
def tC (v : V) : TE := fun _ H Q => Q v H
theorem pe_var {i : Nat} {x : Str} {pos : Pos} (hN : X.N[i]? = some x) (hv : Vis X.env.scope x) (hd : (x == ("__debug__" : Str)) = false := by decide) (hcd : (x == ("__classdict__" : Str)) = false := by decide) : PE X (.Name x pos) (tVar i) := by
  intro pins s σ H Q I h
  obtain ⟨v, e, h⟩ := h
  obtain ⟨m, hn, hl⟩ := I.loc
  obtain ⟨u, r, l⟩ := hl i x v hN e hv
  have fin : EP X pins σ Q u s := ⟨v, H, I, r, h⟩
  rcases l with ⟨hk, hm⟩ | ⟨hk, c, hc, hcell⟩
  · exact wpAny_Name (wpAny_loadName_local I.ok.kind hk hn hm fin) hd
  · rcases hk with hk | hk
    · exact wpAny_Name (wpAny_loadName_cell I.ok.kind hk hc hcell fin) hd
    · exact wpAny_Name (wpAny_loadName_free I.ok.kind hk hc hcell fin hcd) hd
theorem pe_int {i j pos} : PE X (.Constant (.int i) j pos) (tC (.int i)) := fun _ _ _ H _ I h => wpAny_Constant_int ⟨.int i, H, I.tok _, ⟨_, rfl⟩, h⟩
theorem pe_bl {b j pos} : PE X (.Constant (.bool b) j pos) (tC (.bl b)) := fun _ _ _ H _ I h => Constant_bool ⟨.bl b, H, I, rfl, h⟩
theorem pe_non {j pos} : PE X (.Constant .none j pos) (tC .non) := fun _ _ _ H _ I h => Constant_none ⟨.non, H, I, rfl, h⟩
theorem pe_str {x j pos} : PE X (.Constant (.str x) j pos) (tC (.str x)) := fun _ _ _ H _ I h => Calls.Constant_str ⟨.str x, H, I.tok _, ⟨_, rfl⟩, h⟩
def Gl (X : Cx) (x : Str) : Prop := X.env.kindOf x = some .globalImplicit
theorem ld_glob {E : Value → Shared → Prop} {pins : List (Addr × Obj)} {s : Shared} {σ : St} {H : Hp} {x : Str} {u : Value} {pos : Pos} {Q : Value → Shared → Prop} (I : Inv X pins σ H s) (hg : Gl X x) (hm : X.mg x = some u) (h : Q u s)
    (hd : (x == ("__debug__" : Str)) = false := by decide) : wpAny (model X.prog X.w) X.A (eval (.Name x pos) X.env) Q E s :=
  Calls.Name_function_global I.ok.kind hg (Calls.loadGlobal_global (by rw [I.ok.glob]; exact I.mod.glob.keeps I.bk) hm h) hd
theorem ld_blt {E : Value → Shared → Prop} {pins : List (Addr × Obj)} {s : Shared} {σ : St} {H : Hp} {x : Str} {u : Value} {pos : Pos} {Q : Value → Shared → Prop} (I : Inv X pins σ H s) (hg : Gl X x) (hm : X.mg x = none) (hv : bootBuiltins x = some u) (h : Q u s)
    (hn : x ≠ "__name__" := by decide) (hd : (x == ("__debug__" : Str)) = false := by decide) : wpAny (model X.prog X.w) X.A (eval (.Name x pos) X.env) Q E s := by
  obtain ⟨mb, h1, h2⟩ := I.mod.blt
  exact Calls.Name_function_global I.ok.kind hg (Calls.loadGlobal_builtin (by rw [I.ok.glob]; exact I.mod.glob.keeps I.bk) hm (by rw [I.ok.blt]; exact h1.keeps I.bk) ((h2 x hn).trans hv) h) hd
theorem pe_glob {x : Str} {v : V} {u : Value} {pos : Pos} (hg : Gl X x) (hm : X.mg x = some u) (r : RelV v u) (hd : (x == ("__debug__" : Str)) = false := by decide) : PE X (.Name x pos) (tC v) :=
  fun _ _ _ H _ I h => ld_glob I hg hm ⟨v, H, I, r, h⟩ hd
theorem pe_bltn {x : Str} {v : V} {u : Value} {pos : Pos} (hg : Gl X x) (hm : X.mg x = none) (hv : bootBuiltins x = some u) (r : RelV v u) (hn : x ≠ "__name__" := by decide) (hd : (x == ("__debug__" : Str)) = false := by decide) : PE X (.Name x pos) (tC v) :=
  fun _ _ _ H _ I h => ld_blt I hg hm hv ⟨v, H, I, r, h⟩ hn hd
variable {a b : Expr} {ta tb : TE} {pos : Pos}
def tB (t : TE) : TT := fun σ H Q => t σ H fun x H1 => ∃ c, x = .bl c ∧ Q c H1
theorem pt_val {e : Expr} {t : TE} (h : PE X e t) (he : ∀ whole, isTrue e X.env whole = (do let v ← whole; standAt e.pos; holding [v] (truthy v)) := by intro _; rfl) : PT X e (tB t) := by
  intro pins s σ H Q I hw
  refine isTrue_plain (thn (h pins s σ H _ I hw) fun v s1 ⟨x, H1, I1, r1, q1⟩ => ?_) (he _)
  obtain ⟨d, rfl, q⟩ := q1
  cases r1
  exact wpAny_truthy_bool ⟨H1, I1, q⟩
variable {tA tB' : TT} {rest : List Expr}
def tAnd (t u : TT) : TT := fun σ H Q => t σ H fun c H1 => if c = true then u σ H1 Q else Q false H1
def tOr (t u : TT) : TT := fun σ H Q => t σ H fun c H1 => if c = true then Q true H1 else u σ H1 Q
def tNot (t : TT) : TT := fun σ H Q => t σ H fun c H1 => Q (!c) H1
theorem pw_and1 (ha : PT X a tA) : PW X (.BoolOp .And [a] pos) tA := by
  intro wh pins s σ H Q I h
  refine isTrue_and (thn (ha pins s σ H Q I h) fun c s1 e => ?_)
  cases c with
  | true => exact isTrue_and_nil e
  | false => exact e
theorem pw_or1 (ha : PT X a tA) : PW X (.BoolOp .Or [a] pos) tA := by
  intro wh pins s σ H Q I h
  refine isTrue_or (thn (ha pins s σ H Q I h) fun c s1 e => ?_)
  cases c with
  | false => exact isTrue_or_nil e
  | true => exact e
theorem pw_and (ha : PT X a tA) (hb : PW X (.BoolOp .And (b :: rest) pos) tB') : PW X (.BoolOp .And (a :: b :: rest) pos) (tAnd tA tB') := by
  intro wh pins s σ H Q I h
  refine isTrue_and (thn (ha pins s σ H _ I h) fun c s1 ⟨H1, I1, q1⟩ => ?_)
  cases c with
  | true => exact hb wh pins s1 σ H1 Q I1 q1
  | false => exact ⟨H1, I1, q1⟩
theorem pw_or (ha : PT X a tA) (hb : PW X (.BoolOp .Or (b :: rest) pos) tB') : PW X (.BoolOp .Or (a :: b :: rest) pos) (tOr tA tB') := by
  intro wh pins s σ H Q I h
  refine isTrue_or (thn (ha pins s σ H _ I h) fun c s1 ⟨H1, I1, q1⟩ => ?_)
  cases c with
  | true => exact ⟨H1, I1, q1⟩
  | false => exact hb wh pins s1 σ H1 Q I1 q1
theorem pt_not (ha : PT X a tA) : PT X (.UnaryOp .Not a pos) (tNot tA) := by
  intro pins s σ H Q I h
  exact isTrue_not (ha pins s σ H (fun c H1 => Q (!c) H1) I h)
def tAndV (ta tb : TE) : TE := fun σ H Q => ta σ H fun x H1 => ∃ c, x = .bl c ∧ if c = true then tb σ H1 Q else Q (.bl false) H1
def tOrV (ta tb : TE) : TE := fun σ H Q => ta σ H fun x H1 => ∃ c, x = .bl c ∧ if c = true then Q (.bl true) H1 else tb σ H1 Q
def tNotV (ta : TE) : TE := fun σ H Q => ta σ H fun x H1 => ∃ c, x = .bl c ∧ Q (.bl (!c)) H1
theorem pe_one {op} {t : TE} (h : PE X a t) : PE X (.BoolOp op [a] pos) t := fun pins s σ H Q I hw => BoolOp_one (h pins s σ H Q I hw)
theorem pe_and (ha : PE X a ta) (hb : PE X (.BoolOp .And (b :: rest) pos) tb) : PE X (.BoolOp .And (a :: b :: rest) pos) (tAndV ta tb) := by
  intro pins s σ H Q I h
  refine BoolOp_and (thn (ha pins s σ H _ I h) fun v s1 ⟨x, H1, I1, r1, q1⟩ => ?_)
  obtain ⟨c, rfl, q1⟩ := q1
  cases r1
  refine wpAny_truthy_bool ?_
  cases c with
  | true => exact hb pins s1 σ H1 Q I1 q1
  | false => exact ⟨.bl false, H1, I1, rfl, q1⟩
theorem pe_or (ha : PE X a ta) (hb : PE X (.BoolOp .Or (b :: rest) pos) tb) : PE X (.BoolOp .Or (a :: b :: rest) pos) (tOrV ta tb) := by
  intro pins s σ H Q I h
  refine BoolOp_or (thn (ha pins s σ H _ I h) fun v s1 ⟨x, H1, I1, r1, q1⟩ => ?_)
  obtain ⟨c, rfl, q1⟩ := q1
  cases r1
  refine wpAny_truthy_bool ?_
  cases c with
  | false => exact hb pins s1 σ H1 Q I1 q1
  | true => exact ⟨.bl true, H1, I1, rfl, q1⟩
theorem pe_not (ha : PE X a ta) : PE X (.UnaryOp .Not a pos) (tNotV ta) := by
  intro pins s σ H Q I h
  refine UnaryOp_ (thn (ha pins s σ H _ I h) fun v s1 ⟨x, H1, I1, r1, q1⟩ => ?_)
  obtain ⟨c, rfl, q1⟩ := q1
  cases r1
  exact not_of (wpAny_truthy_bool ⟨.bl (!c), H1, I1, rfl, q1⟩)
def tIf (t : TT) (ta tb : TE) : TE := fun σ H Q => t σ H fun c H1 => if c = true then ta σ H1 Q else tb σ H1 Q
theorem pe_ifExp {c : Expr} (hc : PT X c tA) (ha : PE X a ta) (hb : PE X b tb) : PE X (.IfExp c a b pos) (tIf tA ta tb) := by
  intro pins s σ H Q I h
  refine wpAny_IfExp (thn (hc pins s σ H _ I h) fun d s1 ⟨H1, I1, q1⟩ => ?_)
  cases d with
  | true => exact ha pins s1 σ H1 Q I1 q1
  | false => exact hb pins s1 σ H1 Q I1 q1
end
end L2
namespace L2
open PySem PySem.Spec PyProof.Rows
def SqL (K : PySem.W.Frag) (H : Hp) (a : Addr) (xs : List V) : Prop :=
  Rd H a (.lst xs) ∨
    ∃ (o : Obj) (its : Array Value) (n : Nat), K.lookup a = some o ∧ o.cls = .type "list" ∧ o.dict = none ∧ o.data = .seq its n ∧ its.size ≤ sizeLine ∧ Vals xs its.toList
def SqT (K : PySem.W.Frag) (H : Hp) (a : Addr) (xs : List V) : Prop :=
  Rd H a (.tup xs) ∨
    ∃ (o : Obj) (its : Array Value) (n : Nat), K.lookup a = some o ∧ o.cls = .type "tuple" ∧ o.data = .seq its n ∧ its.size ≤ sizeLine ∧ Vals xs its.toList
def absV : Value → Option V
  | .none => some .non
  | .bool b => some (.bl b)
  | .int i _ => some (.int i)
  | .str x _ => some (.str x)
  | .bytes b _ => some (.byt b)
  | .float b _ => some (.flt b)
  | .ref a => some (.ref a)
  | .type n => some (.ty n)
  | _ => none
theorem RelV.abs {x : V} {u : Value} (r : RelV x u) : absV u = some x := by
  cases x with
  | non => cases r; rfl
  | bl _ => cases r; rfl
  | int _ => obtain ⟨t, rfl⟩ := r; rfl
  | str _ => obtain ⟨t, rfl⟩ := r; rfl
  | byt _ => obtain ⟨t, rfl⟩ := r; rfl
  | flt _ => obtain ⟨t, rfl⟩ := r; rfl
  | ref _ => cases r; rfl
  | ty _ => cases r; rfl
theorem RelV.inj {x y : V} {u : Value} (r : RelV x u) (q : RelV y u) : x = y := Option.some.inj (r.abs.symm.trans q.abs)
theorem Vals.inj : ∀ {xs ys : List V} {us : List Value}, Vals xs us → Vals ys us → xs = ys
  | _, _, _, .nil, .nil => rfl
  | _, _, _, .cons r t, .cons r' t' => by rw [r.inj r', Vals.inj t t']
section
variable {X : Cx} {pins : List (Addr × Obj)} {σ : St} {H : Hp} {s : Shared} {a : Addr} {xs ys : List V}
theorem SqL.of {K : PySem.W.Frag} (h : H a = some (.lst xs)) : SqL K H a xs := .inl (.inl h)
theorem SqT.of {K : PySem.W.Frag} (h : H a = some (.tup xs)) : SqT K H a xs := .inl (.inl h)
theorem Inv.list (I : Inv X pins σ H s) (h : SqL X.K H a xs) : ∃ its : List Value, Vals xs its ∧ PlainL s.heap a its.toArray ∧ xs.length ≤ sizeLine := by
  rcases h with h | ⟨o, its, n, hk, hc, hd, hs, hz, r⟩
  · obtain ⟨z, its, n, r, e⟩ := h.ok I.hok
    exact ⟨its, r, ⟨_, n, e, rfl, rfl, rfl⟩, z⟩
  · refine ⟨its.toList, r, ⟨o, n, I.kIn a o hk, hc, hd, by simpa using hs⟩, ?_⟩
    have e := r.length
    simp only [Array.length_toList] at e
    omega
theorem Inv.tuple (I : Inv X pins σ H s) (h : SqT X.K H a xs) : ∃ its : List Value, Vals xs its ∧ IsTup s.heap a its.toArray ∧ xs.length ≤ sizeLine := by
  rcases h with h | ⟨o, its, n, hk, hc, hs, hz, r⟩
  · obtain ⟨z, its, r, p⟩ := h.ok I.hok
    exact ⟨its, r, p, z⟩
  · refine ⟨its.toList, r, ⟨o, I.kIn a o hk, hc, n, by simpa using hs⟩, ?_⟩
    have e := r.length
    simp only [Array.length_toList] at e
    omega
theorem Inv.list_inj (I : Inv X pins σ H s) (h : SqL X.K H a xs) (h' : SqL X.K H a ys) : xs = ys := by
  obtain ⟨its, r, ⟨o, n, e, _, _, d⟩, _⟩ := I.list h
  obtain ⟨its', r', ⟨o', n', e', _, _, d'⟩, _⟩ := I.list h'
  rw [e] at e'; cases e'
  rw [d] at d'
  injection d' with d1 _
  have : its = its' := by simpa using congrArg Array.toList d1
  subst this
  exact r.inj r'
theorem Inv.tuple_inj (I : Inv X pins σ H s) (h : SqT X.K H a xs) (h' : SqT X.K H a ys) : xs = ys := by
  obtain ⟨its, r, ⟨o, e, _, n, d⟩, _⟩ := I.tuple h
  obtain ⟨its', r', ⟨o', e', _, n', d'⟩, _⟩ := I.tuple h'
  rw [e] at e'; cases e'
  rw [d] at d'
  injection d' with d1 _
  have : its = its' := by simpa using congrArg Array.toList d1
  subst this
  exact r.inj r'
end
abbrev Cx.wish (X : Cx) (E : Value → Shared → Prop) : Cx := { X with xe := E }
abbrev Cx.nox (X : Cx) : Cx := X.wish fun _ _ => False
theorem Cx.Ok.wish {X : Cx} (ok : X.Ok) (E : Value → Shared → Prop) : (X.wish E).Ok :=
  ⟨ok.mod, ok.kind, ok.glob, ok.blt, ok.above, ok.inj, ok.has, ok.cab, ok.hd, ok.frames, ok.stk, ok.exf, ok.bs, ok.bsz, ok.noex, ok.exfs, ok.funs, ok.frf⟩
theorem Cx.Ok.unwish {X : Cx} {E : Value → Shared → Prop} (ok : (X.wish E).Ok) : X.Ok :=
  ⟨ok.mod, ok.kind, ok.glob, ok.blt, ok.above, ok.inj, ok.has, ok.cab, ok.hd, ok.frames, ok.stk, ok.exf, ok.bs, ok.bsz, ok.noex, ok.exfs, ok.funs, ok.frf⟩
section
variable {X : Cx} {pins : List (Addr × Obj)} {σ : St} {H : Hp} {s : Shared} {E : Value → Shared → Prop}
theorem Inv.wish (I : Inv X pins σ H s) (E : Value → Shared → Prop) : Inv (X.wish E) pins σ H s := ⟨I.ok.wish E, I.os, I.bare, I.base, I.loc, I.cell, I.free, I.freeC, I.pin, I.hok, I.len⟩
theorem Inv.unwish (I : Inv (X.wish E) pins σ H s) : Inv X pins σ H s := ⟨I.ok.unwish, I.os, I.bare, I.base, I.loc, I.cell, I.free, I.freeC, I.pin, I.hok, I.len⟩
theorem SP.unwish {D : Ends} {f : Flow} {s' : Shared} (h : SP (X.wish E) pins D f s') : SP X pins D f s' := by
  cases f with
  | next => obtain ⟨σ', H', I, q⟩ := h; exact ⟨σ', H', I.unwish, q⟩
  | brk => obtain ⟨σ', H', I, q⟩ := h; exact ⟨σ', H', I.unwish, q⟩
  | cont => obtain ⟨σ', H', I, q⟩ := h; exact ⟨σ', H', I.unwish, q⟩
  | ret u => obtain ⟨v, σ', H', I, r, q⟩ := h; exact ⟨v, σ', H', I.unwish, r, q⟩
theorem PE.nox {e : Expr} {t : TE} (h : PE X.nox e t) : PE X e t := fun pins s σ H Q I hw =>
  wpAny_mono (h pins s σ H Q (I.wish _) hw) (fun _ _ ⟨v, H', I', r, q⟩ => ⟨v, H', I'.unwish, r, q⟩) fun _ _ z => False.elim z
theorem PT.nox {e : Expr} {t : TT} (h : PT X.nox e t) : PT X e t := fun pins s σ H Q I hw =>
  wpAny_mono (h pins s σ H Q (I.wish _) hw) (fun _ _ ⟨H', I', q⟩ => ⟨H', I'.unwish, q⟩) fun _ _ z => False.elim z
theorem PSs.nox {st : List Stmt} {t : TS} (h : PSs X.nox st t) : PSs X st t := fun pins s σ H D I hw =>
  wpAny_mono (h pins s σ H D (I.wish _) hw) (fun _ _ q => q.unwish) fun _ _ z => False.elim z
end
section
variable {X : Cx} {st : Stmt} {rest : List Stmt} {t u : TS} {e : Expr} {te : TE} {pos : Pos}
def tNext : TS := fun D σ H => D.nx σ H
def tSeq (t u : TS) : TS := fun D σ H => t { D with nx := u D } σ H
theorem pss_nil : PSs X [] tNext := fun _ _ σ H _ I h => wpAny_execs_nil ⟨σ, H, I, h⟩
theorem pss_cons (h1 : PS X st t) (h2 : PSs X rest u) : PSs X (st :: rest) (tSeq t u) := by
  intro pins s σ H D I h
  refine wpAny_execs_cons (thn (h1 pins s σ H { D with nx := u D } I h) fun f s1 q => ?_)
  cases f with
  | next =>
    obtain ⟨σ', H', I', q⟩ := q
    exact h2 pins s1 σ' H' D I' q
  | ret v => exact q
  | brk => exact q
  | cont => exact q
theorem pss_one (h1 : PS X st t) : PSs X [st] t := by
  intro pins s σ H D I h
  refine wpAny_execs_cons (thn (h1 pins s σ H D I h) fun f s1 q => ?_)
  cases f with
  | next => exact wpAny_execs_nil q
  | ret v => exact q
  | brk => exact q
  | cont => exact q
theorem Inv.quiet {pins : List (Addr × Obj)} {σ : St} {H : Hp} {s : Shared} (I : Inv X pins σ H s) : interactive X.env = false := by simp [interactive, I.ok.kind]
def tDrop (te : TE) : TS := fun D σ H => te σ H fun _ H1 => D.nx σ H1
theorem ps_expr (he : PE X e te) (hs : swapsWith e none pos.line X.env = pure false := by rfl) : PS X (.Expr e pos) (tDrop te) := by
  intro pins s σ H D I h
  exact wpAny_Expr_any (thn (he pins s σ H _ I h) fun v s1 ⟨x, H1, I1, r1, q1⟩ => ⟨σ, H1, I1, q1⟩) I.quiet hs
def tRet (te : TE) : TS := fun D σ H => te σ H D.rt
theorem ps_ret (he : PE X e te) : PS X (.Return (some e) pos) (tRet te) := by
  intro pins s σ H D I h
  exact wpAny_Return_some (thn (he pins s σ H _ I h) fun v s1 ⟨x, H1, I1, r1, q1⟩ => ⟨x, σ, H1, I1, r1, q1⟩)
def tIfS (c : TT) (t u : TS) : TS := fun D σ H => c σ H fun b H1 => if b = true then t D σ H1 else u D σ H1
theorem ps_if {c : Expr} {a b : List Stmt} {tc : TT} (hc : PT X c tc) (ha : PSs X a t) (hb : PSs X b u) : PS X (.If c a b pos) (tIfS tc t u) := by
  intro pins s σ H D I h
  refine wpAny_If (thn (hc pins s σ H _ I h) fun d s1 ⟨H1, I1, q1⟩ => ?_)
  cases d with
  | true => exact ha pins s1 σ H1 D I1 q1
  | false => exact hb pins s1 σ H1 D I1 q1
end
abbrev TG := V → St → Hp → (St → Hp → Prop) → Prop
abbrev TGs := List V → St → Hp → (St → Hp → Prop) → Prop
def PG (X : Cx) (target : Expr) (t : TG) : Prop :=
  ∀ (pins : List (Addr × Obj)) (s : Shared) (σ : St) (H : Hp) (v : V) (u : Value) (Q : St → Hp → Prop), Inv X pins σ H s → RelV v u → t v σ H Q →
    wpAny (model X.prog X.w) X.A (assign target X.env u) (fun _ s' => ∃ σ' H', Inv X pins σ' H' s' ∧ Q σ' H') X.xe s
def PGs (X : Cx) (ts : List Expr) (t : TGs) : Prop :=
  ∀ (pins : List (Addr × Obj)) (s : Shared) (σ : St) (H : Hp) (vs : List V) (us : List Value) (Q : St → Hp → Prop), Inv X pins σ H s → Vals vs us → t vs σ H Q →
    wpAny (model X.prog X.w) X.A (assignInOrder ((assignEach ts X.env).map (·.2)) us) (fun _ s' => ∃ σ' H', Inv X pins σ' H' s' ∧ Q σ' H') X.xe s
section
variable {X : Cx} {pos : Pos}
def gName (i : Nat) : TG := fun v σ H Q => Q (σ.set i (some v)) H
theorem pg_name {i : Nat} {x : Str} (hN : X.N.Nodup) (hi : X.N[i]? = some x) (hx : Loc X.env.scope x) (hf : X.fn x = true ∨ X.env.scope.names.lookup x = some .local := by first | exact .inl rfl | exact .inr rfl | assumption) : PG X (.Name x pos) (gName i) := by
  intro pins s σ H v u Q I r h
  exact wpAny_assign_Name (store_ok I hN hi hx r (fun s' I' => ⟨_, H, I', h⟩) hf)
def gNil : TGs := fun vs σ H Q => vs = [] ∧ Q σ H
def gCons (t : TG) (u : TGs) : TGs := fun vs σ H Q => ∃ v r, vs = v :: r ∧ t v σ H fun σ' H' => u r σ' H' Q
theorem pgs_nil : PGs X [] gNil := by
  intro pins s σ H vs us Q I r h
  obtain ⟨e, h⟩ := h
  subst e
  cases r
  exact assignInOrder_nil ⟨σ, H, I, h⟩
theorem pgs_cons {e : Expr} {es : List Expr} {t : TG} {u : TGs} (h1 : PG X e t) (h2 : PGs X es u)
    (hs : (assignEach (e :: es) X.env).map (·.2) = assign e X.env :: (assignEach es X.env).map (·.2) := by rfl) : PGs X (e :: es) (gCons t u) := by
  intro pins s σ H vs us Q I r h
  obtain ⟨v, vr, e1, h⟩ := h
  subst e1
  cases r with
  | cons r rr =>
    rw [hs]
    refine assignInOrder_cons (thn (h1 pins s σ H _ _ _ I r h) fun _ s1 ⟨σ1, H1, I1, q1⟩ => ?_)
    exact h2 pins s1 σ1 H1 _ _ Q I1 rr q1
def gTup (K : PySem.W.Frag) (n : Nat) (t : TGs) : TG := fun v σ H Q => ∃ a xs, v = .ref a ∧ SqT K H a xs ∧ xs.length = n ∧ t xs σ H Q
theorem pg_tup {es : List Expr} {k : Nat} {t : TGs} {n : Nat} (hc : X.calm = true) (h : PGs X es t)
    (hn : (assignEach es X.env).length = n := by rfl) (hst : (assignEach es X.env).findIdx? (·.1) = none := by rfl) : PG X (.Tuple es k pos) (gTup X.K n t) := by
  intro pins s σ H v u Q I r hw
  obtain ⟨a, xs, e1, hq, hl, hw⟩ := hw
  subst e1
  cases r
  obtain ⟨its, rv, ht, hz⟩ := I.tuple hq
  refine assign_Tuple_tuple (I.ok.hd hc) ht (by simp [hn, ← hl, rv.length]) hst fun h' hx => ?_
  have I1 : Inv X pins σ H { s with heap := h' } := I.kept (t' := s.toks) fun b o e => hx b o (Nat.ne_of_lt (Heap.lt_size e)) e
  exact h pins _ σ H xs _ Q I1 (by simpa using rv) hw
def tAsg (te : TE) (g : TG) : TS := fun D σ H => te σ H fun x H1 => g x σ H1 D.nx
theorem ps_asg {tg e : Expr} {te : TE} {g : TG} (he : PE X e te) (hg : PG X tg g) (hs : swapsWithSole [tg] e pos.line X.env = pure false := by rfl) (hw : swappedStores [tg] e X.env = pure none := by rfl)
    (h1 : (assignEach [tg] X.env).map (·.2) = [assign tg X.env] := by rfl) : PS X (.Assign [tg] e pos) (tAsg te g) := by
  intro pins s σ H D I h
  refine wpAny_Assign_stores (thn (he pins s σ H _ I h) fun v s1 ⟨x, H1, I1, r1, q1⟩ => ?_) hs hw
  rw [h1]
  exact thn (hg pins s1 σ H1 x v _ I1 r1 q1) fun _ s2 q => q
theorem ps_set {i : Nat} {x : Str} {e : Expr} {te : TE} {pos' : Pos} (hN : X.N.Nodup) (hi : X.N[i]? = some x) (hx : Loc X.env.scope x) (he : PE X e te) (hs : swapsWith e (some (.Name x pos')) pos.line X.env = pure false := by rfl) (hf : X.fn x = true ∨ X.env.scope.names.lookup x = some .local := by first | exact .inl rfl | exact .inr rfl | assumption) :
    PS X (.Assign [.Name x pos'] e pos) (tAsg te (gName i)) := by
  intro pins s σ H D I h
  refine wpAny_Assign_Name (thn (he pins s σ H _ I h) fun v s1 ⟨y, H1, I1, r1, q1⟩ => ?_) hs
  exact store_ok I1 hN hi hx r1 (fun s2 I2 => ⟨_, H1, I2, q1⟩) hf
end
section
variable {X : Cx} {pos : Pos}
def tWhile (c : TT) (tb : TS) : TS := fun D σ H => ∃ W : Nat → St → Hp → Prop, (∃ m, W m σ H) ∧ ∀ m σ H, W m σ H →
  c σ H fun b H1 => if b = true then ∃ N : St → Hp → Prop, (∀ σ' H', N σ' H' → ∃ m', m' < m ∧ W m' σ' H') ∧ tb { D with nx := N, ct := N, bk := D.nx } σ H1 else D.nx σ H1
theorem ps_while {c : Expr} {body : List Stmt} {tc : TT} {tb : TS} (hp : PassesOwn (model X.prog X.w) X.A X.env X.xe) (hc : PT X c tc) (hb : PSs X body tb) : PS X (.While c body [] pos) (tWhile tc tb) := by
  intro pins s σ H D I h
  obtain ⟨W, ⟨m0, w0⟩, turn⟩ := h
  refine wpAny_While (codeAny_whileLoop (fun n s' => ∃ σ' H', Inv X pins σ' H' s' ∧ W n σ' H') ?_ m0 ⟨σ, H, I, w0⟩)
  rintro n s1 ⟨σ1, H1, I1, w1⟩
  refine wpAny_passesOwn hp (thn (hc pins s1 σ1 H1 _ I1 (turn n σ1 H1 w1)) fun b s2 ⟨H2, I2, q2⟩ => ?_)
  cases b with
  | true =>
    obtain ⟨N, hN, q2⟩ := q2
    rw [if_pos rfl]
    refine wpAny_passesOwn hp (thn (hb pins s2 σ1 H2 _ I2 q2) fun f s3 q3 => ?_)
    cases f with
    | next =>
      obtain ⟨σ3, H3, I3, n3⟩ := q3
      obtain ⟨m', hm, w3⟩ := hN σ3 H3 n3
      exact ⟨m', hm, σ3, H3, I3, w3⟩
    | cont =>
      obtain ⟨σ3, H3, I3, n3⟩ := q3
      obtain ⟨m', hm, w3⟩ := hN σ3 H3 n3
      exact ⟨m', hm, σ3, H3, I3, w3⟩
    | brk => exact q3
    | ret v => exact q3
  | false =>
    rw [if_neg Bool.false_ne_true]
    exact wpAny_execs_nil ⟨σ1, H2, I2, q2⟩
end
structure It where
  go : Nat → Hp → Prop
  yld : Nat → Hp → V → Hp → Prop
  stop : Nat → Hp → Prop
def FpOk (X : Cx) (pins : List (Addr × Obj)) (H : Hp) (b : Addr) : Prop :=
  H b = none ∧ b ≠ X.env.locals ∧ b ∉ X.fs ∧ (b ∈ X.ex ∨ X.s₀.heap.objs.size ≤ b) ∧ (∀ x c, X.env.cells.lookup x = some c → c ≠ b) ∧ ∀ p ∈ X.pn ++ pins, p.1 ≠ b
theorem Inv.fpOk {X : Cx} {pins : List (Addr × Obj)} {σ : St} {H H' : Hp} {s : Shared} {b : Addr} (I : Inv X pins σ H s) (hb : s.heap.objs.size ≤ b) (hn : H' b = none) : FpOk X pins H' b := by
  refine ⟨hn, Nat.ne_of_gt (Nat.lt_of_lt_of_le I.lt hb), I.nofs hb, .inr (Nat.le_trans I.sz hb), fun x c e z => ?_, fun p hp z => ?_⟩
  · obtain ⟨v, q⟩ := I.cell x c e
    exact absurd (Nat.lt_of_lt_of_le q.lt (by rw [z]; exact hb)) (Nat.lt_irrefl _)
  · exact absurd (Nat.lt_of_lt_of_le (Heap.lt_size (I.pin p hp).1) (by rw [z]; exact hb)) (Nat.lt_irrefl _)
structure Turn (P : Program) (w : World) (K : PySem.W.Frag) (tg : Expr) (J : It) (fp : List Addr) (it : Addr) (tn : Nat → Heap → Prop) : Prop where
  mem : it ∈ fp
  obj : ∀ i h, tn i h → ∀ b ∈ fp, ∃ o, h.get? b = some o ∧ ∀ v, o.data ≠ .cell v
  keep : ∀ i h h', tn i h → (∀ b ∈ fp, ∀ o, h.get? b = some o → h'.get? b = some o) → tn i h'
  item : ∀ (X : Cx), X.prog = P → X.w = w → X.K = K → X.calm = true → ∀ (i : Nat) (pins : List (Addr × Obj)) (s : Shared) (σ : St) (H : Hp) (E : Value → Shared → Prop), Inv X pins σ H s → (∀ b ∈ fp, FpOk X pins H b) → tn i s.heap → J.go i H →
    wpAny (model P w) X.A (pyNext (.ref it)) (fun r s1 => ∃ u, r = some u ∧
      wpAny (model P w) X.A (letOwnedTupleGo tg (.ref it) u) (fun _ s2 => ∃ x H', Inv X pins σ H' s2 ∧ RelV x u ∧ J.yld i H x H' ∧ tn (i + 1) s2.heap ∧ ∀ b ∈ fp, H' b = none) E s1) E s
  done : ∀ (X : Cx), X.prog = P → X.w = w → X.K = K → X.calm = true → ∀ (i : Nat) (pins : List (Addr × Obj)) (s : Shared) (σ : St) (H : Hp) (E : Value → Shared → Prop), Inv X pins σ H s → (∀ b ∈ fp, FpOk X pins H b) → tn i s.heap → J.stop i H →
    wpAny (model P w) X.A (pyNext (.ref it)) (fun r s1 => r = none ∧ Inv X pins σ H s1) E s
  self : ∀ (A : Around) (i : Nat) (s : Shared) (Q : Value → Shared → Prop) (E : Value → Shared → Prop), tn i s.heap → Q (.ref it) s → wpAny (model P w) A (pyIter (.ref it)) Q E s
abbrev TI := St → Hp → (It → Hp → Prop) → Prop
def PIE (X : Cx) (pins : List (Addr × Obj)) (σ : St) (tg : Expr) (R : It → Hp → Prop) (itv : Value) (s2 : Shared) : Prop :=
  ∃ (it : Addr) (fp : List Addr) (tn : Nat → Heap → Prop) (J : It) (H' : Hp), itv = .ref it ∧ Inv X pins σ H' s2 ∧ Turn X.prog X.w X.K tg J fp it tn ∧ tn 0 s2.heap ∧ (∀ b ∈ fp, FpOk X pins H' b) ∧ R J H'
def PI (X : Cx) (tg iter : Expr) (wi : TI) : Prop :=
  ∀ (pins : List (Addr × Obj)) (s : Shared) (σ : St) (H : Hp) (R : It → Hp → Prop), Inv X pins σ H s → wi σ H R →
    wpAny (model X.prog X.w) X.A (eval iter X.env) (fun v s1 => wpAny (model X.prog X.w) X.A (pyIter v) (PIE X pins σ tg R) X.xe s1) X.xe s
theorem go_of {M : Model} {A : Around} {E : Value → Shared → Prop} {s : Shared} {tg : Expr} {it : Addr} {u : Value} {o : Obj} {n : String} {vs : Array Value} {Q : Unit → Shared → Prop} (ho : s.heap.get? it = some o) (hc : o.cls = .type n) (hd : o.data = .fields vs)
    (hn : ["enumerate", "zip", "dict_itemiterator", "dict_reverseitemiterator", "odict_iterator", "itertools.zip_longest", "itertools.pairwise"].contains n = false) (hQ : Q () s) : wpAny M A (letOwnedTupleGo tg (.ref it) u) Q E s := by
  unfold letOwnedTupleGo
  cases tg <;> first
    | exact wpAny_pure hQ
    | (cases u <;> first
        | exact wpAny_pure hQ
        | (refine wpAny_bind (wpAny_load ho ?_)
           rw [hc, hd]
           show wpAny M A (if (["enumerate", "zip", "dict_itemiterator", "dict_reverseitemiterator", "odict_iterator", "itertools.zip_longest", "itertools.pairwise"].contains n && vs[0]? == some (rawInt _)) = true then _ else _) Q E s
           rw [if_neg (by intro h; rw [hn, Bool.false_and] at h; cases h)]
           exact wpAny_pure hQ))
def Itl (K : PySem.W.Frag) (a : Addr) : It :=
  ⟨fun i H => ∃ xs x, SqL K H a xs ∧ xs[i]? = some x, fun i H x H' => H' = H ∧ ∀ xs, SqL K H a xs → xs[i]? = some x, fun i H => ∃ xs, SqL K H a xs ∧ xs.length ≤ i⟩
def Itt (K : PySem.W.Frag) (a : Addr) : It :=
  ⟨fun i H => ∃ xs x, SqT K H a xs ∧ xs[i]? = some x, fun i H x H' => H' = H ∧ ∀ xs, SqT K H a xs → xs[i]? = some x, fun i H => ∃ xs, SqT K H a xs ∧ xs.length ≤ i⟩
def Itr (lo : Int) (n : Nat) : It := ⟨fun i _ => i < n, fun i H x H' => H' = H ∧ x = .int (lo + i), fun i _ => n ≤ i⟩
theorem turn_list {P : Program} {w : World} {K : PySem.W.Frag} {tg : Expr} (a it : Addr) : Turn P w K tg (Itl K a) [it] it (fun i h => h.IsListIter it a i) where
  mem := by simp
  obj := fun i h st b hb => by
    have e : b = it := by simpa using hb
    subst e
    obtain ⟨o, e, c, d⟩ := st
    exact ⟨o, e, fun v z => by rw [d] at z; cases z⟩
  keep := fun i h h' st k => st.at fun o e => k it (by simp) o e
  item := by
    intro X hP hw hK hc i pins s σ H E I hf st hg
    subst hP hw hK
    obtain ⟨xs, x, hq, hx⟩ := hg
    obtain ⟨its, rv, p, hz⟩ := I.list hq
    obtain ⟨u, hu, ru⟩ := rv.get hx
    obtain ⟨f0, f1, f2, f3, f4, f5⟩ := hf it (by simp)
    refine wpAny_pyNext_list_item st p.isList (x := u) (by simpa using hu) fun h' st' sb => ?_
    have I1 : Inv X pins σ H { s with heap := h' } := I.turned (t' := s.toks) (fun b o hb e => (sb.2 b hb).trans e) f0 f1 f3 f4 f5
    obtain ⟨o, e, c, d⟩ := id st'
    exact ⟨u, rfl, go_of (s := { s with heap := h' }) e c d (by decide) ⟨x, H, I1, ru, ⟨rfl, fun ys hy => by rw [I.list_inj hy hq]; exact hx⟩, st', fun b hb => (hf b hb).1⟩⟩
  done := by
    intro X hP hw hK hc i pins s σ H E I hf st hg
    subst hP hw hK
    obtain ⟨xs, hq, hx⟩ := hg
    obtain ⟨its, rv, p, hz⟩ := I.list hq
    obtain ⟨f0, f1, f2, f3, f4, f5⟩ := hf it (by simp)
    have hl := rv.length
    exact wpAny_pyNext_list_end (I.ok.hd hc) st p.isList (by simp; omega) fun h' eb => ⟨rfl, I.turned (t' := s.toks) (fun b o hb e => eb b o hb e) f0 f1 f3 f4 f5⟩
  self := fun _ _ _ _ _ st h => wpAny_pyIter_listiter st h
theorem turn_tuple {P : Program} {w : World} {K : PySem.W.Frag} {tg : Expr} (a it : Addr) : Turn P w K tg (Itt K a) [it] it (fun i h => h.IsTupleIter it a i) where
  mem := by simp
  obj := fun i h st b hb => by
    have e : b = it := by simpa using hb
    subst e
    obtain ⟨o, e, c, d⟩ := st
    exact ⟨o, e, fun v z => by rw [d] at z; cases z⟩
  keep := fun i h h' st k => st.at fun o e => k it (by simp) o e
  item := by
    intro X hP hw hK hc i pins s σ H E I hf st hg
    subst hP hw hK
    obtain ⟨xs, x, hq, hx⟩ := hg
    obtain ⟨its, rv, p, hz⟩ := I.tuple hq
    obtain ⟨u, hu, ru⟩ := rv.get hx
    obtain ⟨f0, f1, f2, f3, f4, f5⟩ := hf it (by simp)
    refine wpAny_pyNext_tuple_item st (show s.heap.IsTuple a its.toArray from p) (x := u) (by simpa using hu) fun h' st' sb => ?_
    have I1 : Inv X pins σ H { s with heap := h' } := I.turned (t' := s.toks) (fun b o hb e => (sb.2 b hb).trans e) f0 f1 f3 f4 f5
    obtain ⟨o, e, c, d⟩ := id st'
    exact ⟨u, rfl, go_of (s := { s with heap := h' }) e c d (by decide) ⟨x, H, I1, ru, ⟨rfl, fun ys hy => by rw [I.tuple_inj hy hq]; exact hx⟩, st', fun b hb => (hf b hb).1⟩⟩
  done := by
    intro X hP hw hK hc i pins s σ H E I hf st hg
    subst hP hw hK
    obtain ⟨xs, hq, hx⟩ := hg
    obtain ⟨its, rv, p, hz⟩ := I.tuple hq
    obtain ⟨f0, f1, f2, f3, f4, f5⟩ := hf it (by simp)
    have hl := rv.length
    exact wpAny_pyNext_tuple_end (I.ok.hd hc) st (show s.heap.IsTuple a its.toArray from p) (by simp; omega) fun h' eb => ⟨rfl, I.turned (t' := s.toks) (fun b o hb e => eb b o hb e) f0 f1 f3 f4 f5⟩
  self := fun _ _ _ _ _ st h => wpAny_pyIter_tupleiter st h
theorem turn_range {P : Program} {w : World} {K : PySem.W.Frag} {tg : Expr} (it : Addr) (lo : Int) (n : Nat) : Turn P w K tg (Itr lo n) [it] it (fun i h => IsRangeIter h it (lo + (i : Nat) * 1) ((n : Int) - (i : Nat)) 1) where
  mem := by simp
  obj := fun i h st b hb => by
    have e : b = it := by simpa using hb
    subst e
    exact ⟨_, st, fun v z => by
      have z' : Data.fields _ = Data.cell v := z
      cases z'⟩
  keep := fun i h h' st k => k it (by simp) _ st
  item := by
    intro X hP hw hK hc i pins s σ H E I hf st hg
    subst hP hw hK
    obtain ⟨f0, f1, f2, f3, f4, f5⟩ := hf it (by simp)
    have W := Walks.range (prog := X.prog) (w := X.w) (I.ok.hd hc) it lo 1 n
    refine W.item i s _ _ hg st fun v h' tk hv st' kk => ?_
    obtain ⟨t, rfl⟩ := hv
    have I1 : Inv X pins σ H { s with heap := h', toks := tk } := I.turned (fun b o hb e => kk b o (by simpa using hb) e) f0 f1 f3 f4 f5
    refine ⟨_, rfl, go_of (s := { s with heap := h', toks := tk }) (n := "range_iterator") st' rfl rfl (by decide) ⟨.int (lo + i), H, I1, ⟨t, ?_⟩, ⟨rfl, rfl⟩, st', fun b hb => (hf b hb).1⟩⟩
    rw [Int.mul_one]
  done := by
    intro X hP hw hK hc i pins s σ H E I hf st hg
    subst hP hw hK
    obtain ⟨f0, f1, f2, f3, f4, f5⟩ := hf it (by simp)
    exact wpAny_pyNext_range_end (I.ok.hd hc) st (by have : n ≤ i := hg; omega) fun h' eb => ⟨rfl, I.turned (t' := s.toks) (fun b o hb e => eb b o hb e) f0 f1 f3 f4 f5⟩
  self := fun _ _ _ _ _ st h => wpAny_pyIter_rangeiter st h
end L2
namespace L2
open PySem PySem.Spec PyProof.Rows
section
variable {X : Cx} {tg : Expr}
def iList (K : PySem.W.Frag) (tl : TE) : TI := fun σ H R => tl σ H fun x H1 => ∃ a, x = .ref a ∧ (∃ xs, SqL K H1 a xs) ∧ R (Itl K a) H1
def iTup (K : PySem.W.Frag) (tl : TE) : TI := fun σ H R => tl σ H fun x H1 => ∃ a, x = .ref a ∧ (∃ xs, SqT K H1 a xs) ∧ R (Itt K a) H1
theorem pi_list {l : Expr} {tl : TE} (hl : PE X l tl) : PI X tg l (iList X.K tl) := by
  intro pins s σ H R I h
  refine thn (hl pins s σ H _ I h) fun v s1 ⟨x, H1, I1, r1, q1⟩ => ?_
  obtain ⟨a, e, ⟨xs, hq⟩, q⟩ := q1
  subst e
  cases r1
  obtain ⟨its, rv, p, hz⟩ := I1.list hq
  refine wpAny_pyIter_list p.isList ?_
  refine ⟨s1.heap.objs.size, [s1.heap.objs.size], _, _, H1, rfl, I1.kept (t' := s1.toks) fun b o e => Heap.get?_push_of_some _ e, turn_list a _, ⟨_, Heap.get?_push_size _ rfl, rfl, rfl⟩, fun b hb => ?_, q⟩
  have e : b = s1.heap.objs.size := by simpa using hb
  subst e
  exact I1.fpOk (Nat.le_refl _) (I1.hok.fresh (Nat.le_refl _))
theorem pi_tup {l : Expr} {tl : TE} (hl : PE X l tl) : PI X tg l (iTup X.K tl) := by
  intro pins s σ H R I h
  refine thn (hl pins s σ H _ I h) fun v s1 ⟨x, H1, I1, r1, q1⟩ => ?_
  obtain ⟨a, e, ⟨xs, hq⟩, q⟩ := q1
  subst e
  cases r1
  obtain ⟨its, rv, p, hz⟩ := I1.tuple hq
  refine wpAny_pyIter_tuple (show s1.heap.IsTuple a its.toArray from p) ?_
  refine ⟨s1.heap.objs.size, [s1.heap.objs.size], _, _, H1, rfl, I1.kept (t' := s1.toks) fun b o e => Heap.get?_push_of_some _ e, turn_tuple a _, ⟨_, Heap.get?_push_size _ rfl, rfl, rfl⟩, fun b hb => ?_, q⟩
  have e : b = s1.heap.objs.size := by simpa using hb
  subst e
  exact I1.fpOk (Nat.le_refl _) (I1.hok.fresh (Nat.le_refl _))
theorem range_it {pins : List (Addr × Obj)} {σ : St} {H : Hp} {s : Shared} {R : It → Hp → Prop} {E : Value → Shared → Prop} {lo hi : Int} {t u v : Tok} {tk : Nat} (I : Inv X pins σ H s) (h1 : -(2 ^ 62) ≤ lo) (h2 : lo < 2 ^ 62) (h3 : -(2 ^ 62) ≤ hi) (h4 : hi < 2 ^ 62)
    (q : R (Itr lo (hi - lo).toNat) H) : wpAny (model X.prog X.w) X.A (pyIter (.ref s.heap.objs.size)) (PIE X pins σ tg R) E { s with heap := s.heap.push { cls := .type "range", data := .fields #[.int lo t, .int hi u, .int 1 v] }, toks := tk } := by
  refine wpAny_pyIter_range (IsRange.new ..) (small_one h1 h2 h3 h4) ?_
  have I1 : Inv X pins σ H { s with heap := s.heap.push { cls := .type "range", data := .fields #[.int lo t, .int hi u, .int 1 v] }, toks := tk } := I.kept fun b o e => Heap.get?_push_of_some _ e
  refine ⟨(s.heap.push { cls := .type "range", data := .fields #[.int lo t, .int hi u, .int 1 v] }).objs.size, [(s.heap.push { cls := .type "range", data := .fields #[.int lo t, .int hi u, .int 1 v] }).objs.size], _, _, H, rfl,
    I1.kept (t' := tk) fun b o e => Heap.get?_push_of_some _ e, turn_range _ lo (hi - lo).toNat, ?_, fun b hb => ?_, q⟩
  · have e1 : lo + ((0 : Nat) : Int) * 1 = lo := by simp
    have e2 : (((hi - lo).toNat : Nat) : Int) - ((0 : Nat) : Int) = Builtin.Range.rangeSize lo hi 1 := by rw [rangeSize_one]; split <;> omega
    show IsRangeIter _ _ (lo + ((0 : Nat) : Int) * 1) ((((hi - lo).toNat : Nat) : Int) - ((0 : Nat) : Int)) 1
    rw [e1, e2]
    exact Heap.get?_push_size _ rfl
  · have e : b = (s.heap.push { cls := .type "range", data := .fields #[.int lo t, .int hi u, .int 1 v] }).objs.size := by simpa using hb
    subst e
    exact I1.fpOk (Nat.le_refl _) (I1.hok.fresh (Nat.le_refl _))
def iRng1 (ta : TA) : TI := fun σ H R => ta σ H fun vs H1 => ∃ j : Int, vs = [.int j] ∧ -(2 ^ 62) ≤ j ∧ j < 2 ^ 62 ∧ R (Itr 0 j.toNat) H1
theorem pi_range1 {a : Expr} {ta : TA} {p pos : Pos} (hg : Gl X "range") (hm : X.mg "range" = none) (ha : PA X [a] ta) (hs : starEach [a] X.env = [(false, eval a X.env)] := by rfl) : PI X tg (.Call (.Name "range" p) [a] [] pos) (iRng1 ta) := by
  intro pins s σ H R I h
  refine Call_ (ld_blt I hg hm boot_range (PyProof.Rows.callWith_type1 (thn (ha pos pins s σ H _ I h) fun us s1 ⟨vs, H1, I1, r1, q1⟩ => ?_) hs rfl))
  obtain ⟨j, e, q1, q2, q⟩ := q1
  subst e
  cases r1 with
  | cons r rr =>
    cases rr
    obtain ⟨t, rfl⟩ := r
    exact call_range_1 (range_it I1 (by omega) (by omega) q1 q2 (by simpa using q))
def tFor (wi : TI) (g : TG) (tb : TS) : TS := fun D σ H => wi σ H fun J H1 => ∃ W : Nat → Nat → St → Hp → Prop, (∃ m, W 0 m σ H1) ∧ ∀ i m σ H, W i m σ H →
  (J.stop i H ∧ D.nx σ H) ∨ (J.go i H ∧ ∃ N : St → Hp → Prop, (∀ σ' H', N σ' H' → ∃ m', m' < m ∧ W (i + 1) m' σ' H') ∧ ∀ x H', J.yld i H x H' → g x σ H' fun σ2 H2 => tb { D with nx := N, ct := N, bk := D.nx } σ2 H2)
def pinsAt (fp : List Addr) (h : Heap) : List (Addr × Obj) := fp.filterMap fun b => (h.get? b).map fun o => (b, o)
theorem mem_pinsAt {fp : List Addr} {h : Heap} {b : Addr} {o : Obj} (hb : b ∈ fp) (e : h.get? b = some o) : (b, o) ∈ pinsAt fp h := List.mem_filterMap.mpr ⟨b, hb, by rw [e]; rfl⟩
theorem of_pinsAt {fp : List Addr} {h : Heap} {p : Addr × Obj} (hp : p ∈ pinsAt fp h) : p.1 ∈ fp ∧ h.get? p.1 = some p.2 := by
  obtain ⟨b, hb, e⟩ := List.mem_filterMap.mp hp
  cases q : h.get? b with
  | none => rw [q] at e; cases e
  | some o =>
    rw [q] at e
    have e' : (b, o) = p := Option.some.inj e
    subst e'
    exact ⟨hb, q⟩
theorem Inv.pinned {pins : List (Addr × Obj)} {σ : St} {H : Hp} {s : Shared} {fp : List Addr} (I : Inv X pins σ H s) (hf : ∀ b ∈ fp, FpOk X pins H b) (ho : ∀ b ∈ fp, ∃ o, s.heap.get? b = some o ∧ ∀ v, o.data ≠ .cell v) : Inv X (pins ++ pinsAt fp s.heap) σ H s :=
  I.pins_of fun p hp => (List.mem_append.mp hp).elim (fun z => I.pin p (List.mem_append_right _ z)) fun z => by
    obtain ⟨hb, e⟩ := of_pinsAt z
    obtain ⟨f0, f1, f2, _⟩ := hf p.1 hb
    obtain ⟨o, e', d⟩ := ho p.1 hb
    rw [e] at e'; cases e'
    exact ⟨e, f0, f1, f2, d⟩
theorem Inv.unpinned {pins pl : List (Addr × Obj)} {σ : St} {H : Hp} {s : Shared} (I : Inv X (pins ++ pl) σ H s) : Inv X pins σ H s := I.pins_of fun p hp => I.pin p (List.mem_append_right _ (List.mem_append_left _ hp))
theorem ps_for {iter : Expr} {body : List Stmt} {wi : TI} {g : TG} {tb : TS} {pos : Pos} (hp : PassesOwn (model X.prog X.w) X.A X.env X.xe) (hc : X.calm = true) (hi : PI X tg iter wi) (hg : PG X tg g) (hb : PSs X body tb)
    (hs : ∀ x, foldedSetIterable iter X.env x = pure x := by intro _; rfl) : PS X (.For tg iter body [] pos) (tFor wi g tb) := by
  intro pins s σ H D I h
  refine wpAny_For (thn (hi pins s σ H _ I h) fun v s1 h1 => thn h1 fun itv s2 h2 => ?_) hs
  obtain ⟨it, fp, tn, J, H2, e, I2, T, st2, f2, W, ⟨m0, w0⟩, turn⟩ := h2
  subst e
  -- what stays true of the iterator's objects through the loop
  have stat : ∀ {H' : Hp}, (∀ b ∈ fp, H' b = none) → ∀ b ∈ fp, FpOk X pins H' b := fun hn b hb => ⟨hn b hb, (f2 b hb).2⟩
  refine codeAny_forLoop_any (fun n s' => ∃ i σ' H', Inv X pins σ' H' s' ∧ tn i s'.heap ∧ (∀ b ∈ fp, H' b = none) ∧ W i n σ' H') ?_ m0 ⟨0, σ, H2, I2, st2, fun b hb => (f2 b hb).1, w0⟩
  rintro n s3 ⟨i, σ3, H3, I3, st3, fr3, w3⟩
  rcases turn i n σ3 H3 w3 with ⟨stop, qn⟩ | ⟨go, N, hN, step⟩
  · refine wpAny_passesOwn hp (thn (T.done X rfl rfl rfl hc i pins s3 σ3 H3 X.xe I3 (stat fr3) st3 stop) fun r s4 ⟨hr, I4⟩ => ?_)
    subst hr
    exact wpAny_execs_nil ⟨σ3, H3, I4, qn⟩
  · refine wpAny_passesOwn hp (thn (T.item X rfl rfl rfl hc i pins s3 σ3 H3 X.xe I3 (stat fr3) st3 go) fun r s4 ⟨u, hr, h4⟩ => ?_)
    subst hr
    refine wpAny_passesOwn hp (thn h4 fun _ s5 ⟨x, H5, I5, r5, y5, st5, fr5⟩ => ?_)
    have I5' := I5.pinned (stat fr5) (T.obj _ _ st5)
    refine wpAny_passesOwn hp (thn (hg _ s5 σ3 H5 x u _ I5' r5 (step x H5 y5)) fun _ s6 ⟨σ6, H6, I6, q6⟩ => ?_)
    refine wpAny_passesOwn hp (thn (hb _ s6 σ6 H6 _ I6 q6) fun f s7 q7 => ?_)
    have again : ∀ {σ7 : St} {H7 : Hp}, Inv X (pins ++ pinsAt fp s5.heap) σ7 H7 s7 → N σ7 H7 → ∃ m, m < n ∧ ∃ i σ' H', Inv X pins σ' H' s7 ∧ tn i s7.heap ∧ (∀ b ∈ fp, H' b = none) ∧ W i m σ' H' := fun {σ7 H7} I7 n7 => by
      obtain ⟨m', hm, w7⟩ := hN σ7 H7 n7
      refine ⟨m', hm, i + 1, σ7, H7, I7.unpinned, T.keep _ _ _ st5 fun b hb o e => (I7.pin (b, o) (List.mem_append_right _ (List.mem_append_right _ (mem_pinsAt hb e)))).1, fun b hb => ?_, w7⟩
      obtain ⟨o, e, d⟩ := T.obj _ _ st5 b hb
      exact (I7.pin (b, o) (List.mem_append_right _ (List.mem_append_right _ (mem_pinsAt hb e)))).2.1
    cases f with
    | next => obtain ⟨σ7, H7, I7, n7⟩ := q7; exact again I7 n7
    | cont => obtain ⟨σ7, H7, I7, n7⟩ := q7; exact again I7 n7
    | brk => obtain ⟨σ7, H7, I7, q7⟩ := q7; exact ⟨σ7, H7, I7.unpinned, q7⟩
    | ret v => obtain ⟨x7, σ7, H7, I7, r7, q7⟩ := q7; exact ⟨x7, σ7, H7, I7.unpinned, r7, q7⟩
end
theorem for_list {K : PySem.W.Frag} {a : Addr} {xs : List V} {g : TG} {tb : TS} {D : Ends} {σ : St} {H : Hp} (Pv : Nat → St → Hp → Prop) (h0 : Pv 0 σ H) (hl : ∀ i σ H, i ≤ xs.length → Pv i σ H → SqL K H a xs)
    (hs : ∀ i x σ H, xs[i]? = some x → Pv i σ H → g x σ H fun σ2 H2 => tb { D with nx := Pv (i + 1), ct := Pv (i + 1), bk := D.nx } σ2 H2) (hd : ∀ σ H, Pv xs.length σ H → D.nx σ H) :
    ∃ W : Nat → Nat → St → Hp → Prop, (∃ m, W 0 m σ H) ∧ ∀ i m σ H, W i m σ H →
      ((Itl K a).stop i H ∧ D.nx σ H) ∨ ((Itl K a).go i H ∧ ∃ N : St → Hp → Prop, (∀ σ' H', N σ' H' → ∃ m', m' < m ∧ W (i + 1) m' σ' H') ∧ ∀ x H', (Itl K a).yld i H x H' → g x σ H' fun σ2 H2 => tb { D with nx := N, ct := N, bk := D.nx } σ2 H2) := by
  refine ⟨fun i m σ H => m = xs.length - i ∧ i ≤ xs.length ∧ Pv i σ H, ⟨xs.length, by simp, Nat.zero_le _, h0⟩, ?_⟩
  rintro i m σ H ⟨rfl, hi, p⟩
  have q := hl i σ H hi p
  by_cases hlt : i < xs.length
  · refine .inr ⟨⟨xs, xs[i], q, by simp [hlt]⟩, Pv (i + 1), fun σ' H' p' => ⟨xs.length - (i + 1), by omega, rfl, hlt, p'⟩, fun x H' y => ?_⟩
    obtain ⟨e, y⟩ := y
    subst e
    exact hs i x σ _ (y xs q) p
  · have e : i = xs.length := by omega
    subst e
    exact .inl ⟨⟨xs, q, Nat.le_refl _⟩, hd σ H p⟩
theorem for_range {lo : Int} {n : Nat} {g : TG} {tb : TS} {D : Ends} {σ : St} {H : Hp} (Pv : Nat → St → Hp → Prop) (h0 : Pv 0 σ H)
    (hs : ∀ i σ H, i < n → Pv i σ H → g (.int (lo + i)) σ H fun σ2 H2 => tb { D with nx := Pv (i + 1), ct := Pv (i + 1), bk := D.nx } σ2 H2) (hd : ∀ σ H, Pv n σ H → D.nx σ H) :
    ∃ W : Nat → Nat → St → Hp → Prop, (∃ m, W 0 m σ H) ∧ ∀ i m σ H, W i m σ H →
      ((Itr lo n).stop i H ∧ D.nx σ H) ∨ ((Itr lo n).go i H ∧ ∃ N : St → Hp → Prop, (∀ σ' H', N σ' H' → ∃ m', m' < m ∧ W (i + 1) m' σ' H') ∧ ∀ x H', (Itr lo n).yld i H x H' → g x σ H' fun σ2 H2 => tb { D with nx := N, ct := N, bk := D.nx } σ2 H2) := by
  refine ⟨fun i m σ H => m = n - i ∧ i ≤ n ∧ Pv i σ H, ⟨n, by simp, Nat.zero_le _, h0⟩, ?_⟩
  rintro i m σ H ⟨rfl, hi, p⟩
  by_cases hlt : i < n
  · refine .inr ⟨hlt, Pv (i + 1), fun σ' H' p' => ⟨n - (i + 1), by omega, rfl, hlt, p'⟩, fun x H' y => ?_⟩
    obtain ⟨e, y⟩ := y
    subst e y
    exact hs i σ _ hlt p
  · have e : i = n := by omega
    subst e
    exact .inl ⟨Nat.le_refl _, hd σ H p⟩
theorem while_by {c : TT} {tb : TS} {D : Ends} {σ : St} {H : Hp} (Pv : St → Hp → Prop) (μ : St → Hp → Nat) (h0 : Pv σ H)
    (hs : ∀ σ H, Pv σ H → c σ H fun b H1 => if b = true then tb { D with nx := fun σ' H' => Pv σ' H' ∧ μ σ' H' < μ σ H, ct := fun σ' H' => Pv σ' H' ∧ μ σ' H' < μ σ H, bk := D.nx } σ H1 else D.nx σ H1)
    (mono : ∀ σ H Q Q', (∀ b H1, Q b H1 → Q' b H1) → c σ H Q → c σ H Q') : tWhile c tb D σ H := by
  refine ⟨fun m σ H => m = μ σ H ∧ Pv σ H, ⟨_, rfl, h0⟩, ?_⟩
  rintro m σ H ⟨rfl, p⟩
  refine mono σ H _ _ (fun b H1 q => ?_) (hs σ H p)
  cases b with
  | true => exact ⟨_, fun σ' H' ⟨p', l⟩ => ⟨_, l, rfl, p'⟩, q⟩
  | false => exact q
end L2
namespace L2
open PySem PySem.Spec PyProof.Rows
abbrev R2 := V → V → Hp → VK → Prop
def OpR (X : Cx) (f : Value → Value → Sem Value) (r : R2) : Prop :=
  ∀ (pins : List (Addr × Obj)) (s : Shared) (σ : St) (H : Hp) (x y : V) (v u : Value) (Q : VK), Inv X pins σ H s → RelV x v → RelV y u → r x y H Q →
    wpAny (model X.prog X.w) X.A (f v u) (EP X pins σ Q) X.xe s
def UnR (X : Cx) (f : Value → Sem Value) (r : V → Hp → VK → Prop) : Prop :=
  ∀ (pins : List (Addr × Obj)) (s : Shared) (σ : St) (H : Hp) (x : V) (v : Value) (Q : VK), Inv X pins σ H s → RelV x v → r x H Q →
    wpAny (model X.prog X.w) X.A (f v) (EP X pins σ Q) X.xe s
def CallR (X : Cx) (f : Value) (r : List V → Hp → VK → Prop) : Prop :=
  ∀ (pins : List (Addr × Obj)) (s : Shared) (σ : St) (H : Hp) (xs : List V) (us : List Value) (Q : VK), Inv X pins σ H s → Vals xs us → r xs H Q →
    wpAny (model X.prog X.w) X.A (call f us) (EP X pins σ Q) X.xe s
def tOp (r : R2) (ta tb : TE) : TE := fun σ H Q => ta σ H fun x H1 => tb σ H1 fun y H2 => r x y H2 Q
def tUn (r : V → Hp → VK → Prop) (ta : TE) : TE := fun σ H Q => ta σ H fun x H1 => r x H1 Q
def rI (C : Int → Int → Prop) (g : Int → Int → V) : R2 := fun x y H Q => ∃ i j, x = .int i ∧ y = .int j ∧ C i j ∧ Q (g i j) H
def rI0 (g : Int → Int → V) : R2 := fun x y H Q => ∃ i j, x = .int i ∧ y = .int j ∧ Q (g i j) H
def rU (g : Int → V) : V → Hp → VK → Prop := fun x H Q => ∃ i, x = .int i ∧ Q (g i) H
section
variable {X : Cx} {a b c : Expr} {ta tb tc : TE} {pos : Pos}
theorem binT (ha : PE X a ta) (hb : PE X b tb) {pins : List (Addr × Obj)} {s : Shared} {σ : St} {H : Hp} {R : V → V → Hp → Prop} (I : Inv X pins σ H s)
    (h : ta σ H fun x H1 => tb σ H1 fun y H2 => R x y H2) {Q : Value → Shared → Prop} {f : Value → Value → Sem Value}
    (hf : ∀ v u s2 x y H2, Inv X pins σ H2 s2 → RelV x v → RelV y u → R x y H2 → wpAny (model X.prog X.w) X.A (f v u) Q X.xe s2) :
    wpAny (model X.prog X.w) X.A (eval a X.env) (fun v s₁ => wpAny (model X.prog X.w) X.A (eval b X.env) (fun u s₂ => wpAny (model X.prog X.w) X.A (f v u) Q X.xe s₂) X.xe s₁) X.xe s := by
  refine thn (ha pins s σ H _ I h) fun v s1 ⟨x, H1, I1, r1, q1⟩ => ?_
  refine thn (hb pins s1 σ H1 _ I1 q1) fun u s2 ⟨y, H2, I2, r2, q2⟩ => ?_
  exact hf v u s2 x y H2 I2 r1 r2 q2
theorem pe_op {op : Operator} {r : R2} (ho : OpR X (binaryOp op) r) (ha : PE X a ta) (hb : PE X b tb) : PE X (.BinOp a op b pos) (tOp r ta tb) := by
  intro pins s σ H Q I h
  exact wpAny_BinOp (binT ha hb I h fun v u s2 x y H2 I2 rx ry q => ho pins s2 σ H2 x y v u Q I2 rx ry q)
theorem pe_un {op : UnaryOp} {r : V → Hp → VK → Prop} (ho : UnR X (unaryOp op) r) (ha : PE X a ta) : PE X (.UnaryOp op a pos) (tUn r ta) := by
  intro pins s σ H Q I h
  exact UnaryOp_ (thn (ha pins s σ H _ I h) fun v s1 ⟨x, H1, I1, r1, q1⟩ => ho pins s1 σ H1 x v Q I1 r1 q1)
theorem opI {f : Value → Value → Sem Value} {C : Int → Int → Prop} {g : Int → Int → Int}
    (rule : ∀ (i j : Int) (t u : Tok) (s : Shared) (Q : Value → Shared → Prop) (E : Value → Shared → Prop), C i j → Q (.int (g i j) s.toks) { s with toks := s.toks + 1 } → wpAny (model X.prog X.w) X.A (f (.int i t) (.int j u)) Q E s) :
    OpR X f (rI C fun i j => .int (g i j)) := by
  intro pins s σ H x y v u Q I rx ry h
  obtain ⟨i, j, rfl, rfl, hc, q⟩ := h
  obtain ⟨t, rfl⟩ := rx
  obtain ⟨t', rfl⟩ := ry
  exact rule i j t t' s _ _ hc ⟨.int (g i j), H, I.tok _, ⟨_, rfl⟩, q⟩
theorem opI0 {f : Value → Value → Sem Value} {g : Int → Int → Int}
    (rule : ∀ (i j : Int) (t u : Tok) (s : Shared) (Q : Value → Shared → Prop) (E : Value → Shared → Prop), Q (.int (g i j) s.toks) { s with toks := s.toks + 1 } → wpAny (model X.prog X.w) X.A (f (.int i t) (.int j u)) Q E s) :
    OpR X f (rI0 fun i j => .int (g i j)) := by
  intro pins s σ H x y v u Q I rx ry h
  obtain ⟨i, j, rfl, rfl, q⟩ := h
  obtain ⟨t, rfl⟩ := rx
  obtain ⟨t', rfl⟩ := ry
  exact rule i j t t' s _ _ ⟨.int (g i j), H, I.tok _, ⟨_, rfl⟩, q⟩
theorem opB0 {f : Value → Value → Sem Value} {g : Int → Int → Bool}
    (rule : ∀ (i j : Int) (t u : Tok) (s : Shared) (Q : Value → Shared → Prop) (E : Value → Shared → Prop), Q (.bool (g i j)) s → wpAny (model X.prog X.w) X.A (f (.int i t) (.int j u)) Q E s) :
    OpR X f (rI0 fun i j => .bl (g i j)) := by
  intro pins s σ H x y v u Q I rx ry h
  obtain ⟨i, j, rfl, rfl, q⟩ := h
  obtain ⟨t, rfl⟩ := rx
  obtain ⟨t', rfl⟩ := ry
  exact rule i j t t' s _ _ ⟨.bl (g i j), H, I, rfl, q⟩
def CPow (i j : Int) : Prop := 0 ≤ j ∧ j ≤ 1000000 ∧ i.natAbs < 2 ^ 64
def CMul (i j : Int) : Prop := (-(2 ^ 64) < i ∧ i < 2 ^ 64) ∨ (-(2 ^ 64) < j ∧ j < 2 ^ 64)
theorem CMul.ok {i j : Int} (h : CMul i j) : IntMulOk i j := by
  rcases h with ⟨h1, h2⟩ | ⟨h1, h2⟩
  · exact .of_left (intBits_le_64 h1 h2)
  · exact .of_right (intBits_le_64 h1 h2)
theorem op_add : OpR X (binaryOp .Add) (rI0 fun i j => .int (i + j)) := opI0 fun _ _ _ _ _ _ _ q => add_int q
theorem op_sub : OpR X (binaryOp .Sub) (rI0 fun i j => .int (i - j)) := opI0 fun _ _ _ _ _ _ _ q => sub_int q
theorem op_mod : OpR X (binaryOp .Mod) (rI (fun _ j => 0 < j) fun i j => .int (i % j)) := opI fun i j _ _ _ _ _ hc q => by
  have h1 : (0 : Int) < j := hc
  exact mod_int' (by omega) (by rw [Int.fmod_eq_emod_of_nonneg i (by omega)]; exact q)
theorem op_pow : OpR X (binaryOp .Pow) (rI CPow fun i j => .int (i ^ j.toNat)) := opI fun _ _ _ _ _ _ _ hc q => pow_int_small hc.1 hc.2.1 hc.2.2 q
theorem op_shl : OpR X (binaryOp .LShift) (rI CPow fun i j => .int (i * 2 ^ j.toNat)) := opI fun _ _ _ _ _ _ _ hc q => lshift_int_small hc.1 hc.2.1 hc.2.2 q
theorem unI {f : Value → Sem Value} {g : Int → Int}
    (rule : ∀ (i : Int) (t : Tok) (s : Shared) (Q : Value → Shared → Prop) (E : Value → Shared → Prop), Q (.int (g i) s.toks) { s with toks := s.toks + 1 } → wpAny (model X.prog X.w) X.A (f (.int i t)) Q E s) :
    UnR X f (rU fun i => .int (g i)) := by
  intro pins s σ H x v Q I rx h
  obtain ⟨i, rfl, q⟩ := h
  obtain ⟨t, rfl⟩ := rx
  exact rule i t s _ _ ⟨.int (g i), H, I.tok _, ⟨_, rfl⟩, q⟩
theorem un_neg : UnR X (unaryOp .USub) (rU fun i => .int (-i)) := unI fun _ _ _ _ _ q => neg_int q
end
def scal : V → V → Bool
  | .non, .non => true | .non, .int _ => true | .int _, .non => true | .non, .bl _ => true | .bl _, .non => true | .non, .str _ => true | .str _, .non => true
  | .int _, .int _ => true | .bl _, .bl _ => true | .str _, .str _ => true | .byt _, .byt _ => true
  | .int _, .str _ => true | .str _, .int _ => true | .bl _, .str _ => true | .str _, .bl _ => true
  | _, _ => false
def rEq : R2 := fun x y H Q => scal x y = true ∧ Q (.bl (decide (x = y))) H
def rNe : R2 := fun x y H Q => scal x y = true ∧ Q (.bl (!decide (x = y))) H
theorem dec_int {i j : Int} : decide (V.int i = V.int j) = (i == j) := by
  rw [Bool.eq_iff_iff]
  simp
theorem dec_bl {i j : Bool} : decide (V.bl i = V.bl j) = (i == j) := by
  rw [Bool.eq_iff_iff]
  simp
theorem dec_str {i j : Str} : decide (V.str i = V.str j) = (i == j) := by
  rw [Bool.eq_iff_iff]
  simp
theorem dec_byt {i j : Array UInt8} : decide (V.byt i = V.byt j) = (i.toList == j.toList) := by
  rw [Bool.eq_iff_iff]
  cases i
  cases j
  simp
section
variable {X : Cx} {a b c : Expr} {ta tb tc : TE} {pos : Pos}
theorem fin_bl {pins : List (Addr × Obj)} {σ : St} {H : Hp} {s : Shared} {Q : VK} {k k' : Bool} (I : Inv X pins σ H s) (q : Q (.bl k) H) (e : k = k') : EP X pins σ Q (.bool k') s := by
  subst e
  exact ⟨.bl k, H, I, rfl, q⟩
theorem op_eq : OpR X (compareOp .Eq) rEq := by
  intro pins s σ H x y v u Q I rx ry h
  obtain ⟨hs, q⟩ := h
  cases x with
  | non =>
    cases rx
    cases y with
    | non => cases ry; exact PySem.EqNone.eq_none_none (fin_bl I q (by simp))
    | bl j => cases ry; exact PySem.EqNone.eq_none_bool (fin_bl I q (by simp))
    | int j => obtain ⟨t', rfl⟩ := ry; exact PySem.EqNone.eq_none_int (fin_bl I q (by simp))
    | str j => obtain ⟨t', rfl⟩ := ry; exact PySem.EqNone.eq_none_str (fin_bl I q (by simp))
    | _ => exact absurd (show false = true from hs) Bool.false_ne_true
  | bl i =>
    cases rx
    cases y with
    | non => cases ry; exact PySem.EqNone.eq_bool_none (fin_bl I q (by simp))
    | bl j => cases ry; exact eq_bool (fin_bl I q dec_bl)
    | str j => obtain ⟨t', rfl⟩ := ry; exact PySem.EqMixed.eq_bool_str (fin_bl I q (by simp))
    | _ => exact absurd (show false = true from hs) Bool.false_ne_true
  | int i =>
    obtain ⟨t, rfl⟩ := rx
    cases y with
    | non => cases ry; exact PySem.EqNone.eq_int_none (fin_bl I q (by simp))
    | int j => obtain ⟨t', rfl⟩ := ry; exact eq_int (fin_bl I q dec_int)
    | str j => obtain ⟨t', rfl⟩ := ry; exact PySem.EqMixed.eq_int_str (fin_bl I q (by simp))
    | _ => exact absurd (show false = true from hs) Bool.false_ne_true
  | str i =>
    obtain ⟨t, rfl⟩ := rx
    cases y with
    | non => cases ry; exact PySem.EqNone.eq_str_none (fin_bl I q (by simp))
    | bl j => cases ry; exact PySem.EqMixed.eq_str_bool (fin_bl I q (by simp))
    | int j => obtain ⟨t', rfl⟩ := ry; exact PySem.EqMixed.eq_str_int (fin_bl I q (by simp))
    | str j => obtain ⟨t', rfl⟩ := ry; exact eq_str (fin_bl I q dec_str)
    | _ => exact absurd (show false = true from hs) Bool.false_ne_true
  | byt i =>
    obtain ⟨t, rfl⟩ := rx
    cases y with
    | byt j => obtain ⟨t', rfl⟩ := ry; exact PySem.W.eq_bytes (fin_bl I q dec_byt)
    | _ => exact absurd (show false = true from hs) Bool.false_ne_true
  | _ => cases y <;> exact absurd (show false = true from hs) Bool.false_ne_true
theorem op_ne : OpR X (compareOp .NotEq) rNe := by
  intro pins s σ H x y v u Q I rx ry h
  obtain ⟨hs, q⟩ := h
  cases x with
  | non =>
    cases rx
    cases y with
    | non => cases ry; exact PySem.EqNone.ne_none_none (fin_bl I q (by simp))
    | bl j => cases ry; exact PySem.EqNone.ne_none_bool (fin_bl I q (by simp))
    | int j => obtain ⟨t', rfl⟩ := ry; exact PySem.EqNone.ne_none_int (fin_bl I q (by simp))
    | str j => obtain ⟨t', rfl⟩ := ry; exact PySem.EqNone.ne_none_str (fin_bl I q (by simp))
    | _ => exact absurd (show false = true from hs) Bool.false_ne_true
  | bl i =>
    cases rx
    cases y with
    | non => cases ry; exact PySem.EqNone.ne_bool_none (fin_bl I q (by simp))
    | bl j => cases ry; exact ne_bool (fin_bl I q (congrArg not dec_bl))
    | str j => obtain ⟨t', rfl⟩ := ry; exact PySem.EqMixed.ne_bool_str (fin_bl I q (by simp))
    | _ => exact absurd (show false = true from hs) Bool.false_ne_true
  | int i =>
    obtain ⟨t, rfl⟩ := rx
    cases y with
    | non => cases ry; exact PySem.EqNone.ne_int_none (fin_bl I q (by simp))
    | int j => obtain ⟨t', rfl⟩ := ry; exact ne_int (fin_bl I q (congrArg not dec_int))
    | str j => obtain ⟨t', rfl⟩ := ry; exact PySem.EqMixed.ne_int_str (fin_bl I q (by simp))
    | _ => exact absurd (show false = true from hs) Bool.false_ne_true
  | str i =>
    obtain ⟨t, rfl⟩ := rx
    cases y with
    | non => cases ry; exact PySem.EqNone.ne_str_none (fin_bl I q (by simp))
    | bl j => cases ry; exact PySem.EqMixed.ne_str_bool (fin_bl I q (by simp))
    | int j => obtain ⟨t', rfl⟩ := ry; exact PySem.EqMixed.ne_str_int (fin_bl I q (by simp))
    | str j => obtain ⟨t', rfl⟩ := ry; exact ne_str (fin_bl I q (congrArg not dec_str))
    | _ => exact absurd (show false = true from hs) Bool.false_ne_true
  | byt i =>
    obtain ⟨t, rfl⟩ := rx
    cases y with
    | byt j => obtain ⟨t', rfl⟩ := ry; exact PySem.W.ne_bytes (fin_bl I q (congrArg not dec_byt))
    | _ => exact absurd (show false = true from hs) Bool.false_ne_true
  | _ => cases y <;> exact absurd (show false = true from hs) Bool.false_ne_true
theorem op_lt : OpR X (compareOp .Lt) (rI0 fun i j => .bl (decide (i < j))) := opB0 fun _ _ _ _ _ _ _ q => lt_int q
theorem op_le : OpR X (compareOp .LtE) (rI0 fun i j => .bl (decide (i ≤ j))) := opB0 fun _ _ _ _ _ _ _ q => le_int q
theorem op_gt : OpR X (compareOp .Gt) (rI0 fun i j => .bl (decide (j < i))) := opB0 fun _ _ _ _ _ _ _ q => gt_int q
theorem OpR.or {f : Value → Value → Sem Value} {r r' : R2} (h : OpR X f r) (h' : OpR X f r') : OpR X f (fun x y H Q => r x y H Q ∨ r' x y H Q) := by
  intro pins s σ H x y v u Q I rx ry q
  rcases q with q | q
  · exact h pins s σ H x y v u Q I rx ry q
  · exact h' pins s σ H x y v u Q I rx ry q
theorem nomark (b : Expr) {op : CmpOp} (h : op ≠ .In := by decide) (h2 : op ≠ .NotIn := by decide) : behindInMarks op b = false := by
  have e1 : (op == CmpOp.In) = false := by cases op <;> first | rfl | exact absurd rfl h
  have e2 : (op == CmpOp.NotIn) = false := by cases op <;> first | rfl | exact absurd rfl h2
  cases b <;> simp [behindInMarks, e1, e2]
theorem pe_cmpR {op : CmpOp} {r : R2} (ho : OpR X (compareOp op) r) (ha : PE X a ta) (hb : PE X b tb) (hm : behindInMarks op b = false) : PE X (.Compare a [op] [b] pos) (tOp r ta tb) := by
  intro pins s σ H Q I h
  exact wpAny_Compare1 (binT ha hb I h fun v u s2 x y H2 I2 rx ry q => ho pins s2 σ H2 x y v u Q I2 rx ry q) hm
def tTest (t : TE) : TT := fun σ H Q => t σ H fun x H' => ∃ k, x = .bl k ∧ Q k H'
theorem pt_cmpR {op : CmpOp} {r : R2} (ho : OpR X (compareOp op) r) (ha : PE X a ta) (hb : PE X b tb) (hm : behindInMarks op b = false) : PT X (.Compare a [op] [b] pos) (tTest (tOp r ta tb)) := by
  intro pins s σ H Q I h
  refine wpAny_isTrue_Compare1 (thn (ha pins s σ H _ I h) fun v s1 ⟨x, H1, I1, r1, q1⟩ => thn (hb pins s1 σ H1 _ I1 q1) fun u s2 ⟨y, H2, I2, r2, q2⟩ =>
    thn (ho pins s2 σ H2 x y v u _ I2 r1 r2 q2) fun c s3 ⟨z, H3, I3, r3, k, e, q3⟩ => ?_) hm
  subst e
  cases r3
  exact wpAny_truthy_bool ⟨H3, I3, q3⟩
def tChain (r r' : R2) (ta tb tc : TE) : TE := fun σ H Q => ta σ H fun x H1 => tb σ H1 fun y H2 => r x y H2 fun z H3 => ∃ k, z = .bl k ∧
  (if k = true then tc σ H3 fun w' H4 => r' y w' H4 Q else Q (.bl false) H3)
theorem pt_chain {op op' : CmpOp} {r r' : R2} (ho : OpR X (compareOp op) r) (ho' : OpR X (compareOp op') r') (ha : PE X a ta) (hb : PE X b tb) (hc : PE X c tc)
    (hm : lastMarks [op, op'] [b, c] = false := by with_unfolding_all rfl) : PT X (.Compare a [op, op'] [b, c] pos) (tTest (tChain r r' ta tb tc)) := by
  intro pins s σ H Q I h
  refine isTrue_chain (thn (ha pins s σ H _ I h) fun v s1 ⟨x, H1, I1, r1, q1⟩ => test_link (thn (hb pins s1 σ H1 _ I1 q1) fun u s2 ⟨y, H2, I2, r2, q2⟩ =>
    thn (ho pins s2 σ H2 x y v u _ I2 r1 r2 q2) fun d s3 ⟨z, H3, I3, r3, k, e, q3⟩ => ?_)) hm
  subst e
  cases r3
  refine wpAny_truthy_bool ?_
  cases k with
  | false =>
    obtain ⟨k', e', q'⟩ := q3
    cases e'
    exact ite_ff ⟨H3, I3, q'⟩
  | true =>
    refine ite_tt (test_last (thn (hc pins s3 σ H3 _ I3 q3) fun w' s4 ⟨z', H4, I4, r4, q4⟩ => thn (ho' pins s4 σ H4 y z' u w' _ I4 r2 r4 q4) fun d' s5 ⟨z2, H5, I5, r5, k2, e2, q5⟩ => ?_))
    subst e2
    cases r5
    exact wpAny_truthy_bool ⟨H5, I5, q5⟩
theorem line63 : (sizeLine : Nat) < 2 ^ 63 := by rw [sizeLine_eq]; decide
theorem vals1 {x : V} {us : List Value} (r : Vals [x] us) : ∃ u, us = [u] ∧ RelV x u := by
  cases r with
  | cons r1 r2 => cases r2; exact ⟨_, rfl, r1⟩
theorem vals2 {x y : V} {us : List Value} (r : Vals [x, y] us) : ∃ u w', us = [u, w'] ∧ RelV x u ∧ RelV y w' := by
  cases r with
  | cons r1 r2 =>
    cases r2 with
    | cons r3 r4 => cases r4; exact ⟨_, _, rfl, r1, r3⟩
theorem call_int1 : CallR X (.type "int") (fun xs H Q => (∃ i, xs = [.int i] ∧ Q (.int i) H) ∨ ∃ k, xs = [.bl k] ∧ Q (.int (if k then 1 else 0)) H) := by
  intro pins s σ H xs us Q I r h
  rcases h with ⟨i, rfl, q⟩ | ⟨k, rfl, q⟩
  · obtain ⟨u, rfl, t, rfl⟩ := vals1 r
    exact call_int_int ⟨.int i, H, I, ⟨_, rfl⟩, q⟩
  · obtain ⟨u, rfl, r1⟩ := vals1 r
    cases r1
    exact call_int_bool ⟨.int (if k then 1 else 0), H, I.tok _, ⟨_, rfl⟩, q⟩
end
end L2
namespace L2
open PySem PySem.Spec PyProof.Rows
structure ObjM (h : Heap) (x dx C : Addr) (mA : Str → Option Value) : Prop where
  obj : h.get? x = some (PySem.W.instObj C dx)
  ns : h.Ns1 dx mA
  ne : dx ≠ x
theorem lookIn_ns {h : Heap} {dx : Addr} {mA : Str → Option Value} (n : h.Ns1 dx mA) : ∃ od, h.get? dx = some od ∧ ∀ name, PySem.W.lookIn name od = some (mA name) := by
  obtain ⟨o, es, ep, ho, hd, hk, _, hm⟩ := n
  refine ⟨o, ho, fun name => ?_⟩
  have e := hm name
  unfold nsFind findBy at e
  rw [← Array.find?_toList] at e
  unfold PySem.W.lookIn
  rw [hd]
  dsimp only
  split
  · rename_i y q
    rw [q] at e
    exact congrArg some e
  · rename_i q
    rw [q] at e
    have a : es.toList.any (·.refKey) = false := by
      rw [List.any_eq_false]
      intro y hy
      obtain ⟨z, t, hkey⟩ := hk y (Array.mem_toList_iff.mp hy)
      simp [DictEntry.refKey, hkey]
    have a' : ¬ es.toList.any (·.refKey) = true := by rw [a]; exact Bool.false_ne_true
    rw [if_neg a']
    exact congrArg some e
theorem ObjM.look {h : Heap} {x dx C : Addr} {mA : Str → Option Value} (I : ObjM h x dx C mA) : ∃ od, PySem.W.InstAt h x (PySem.W.instObj C dx) C (some od) ∧ ∀ name, PySem.W.lookIn name od = some (mA name) :=
  let ⟨od, ho, hl⟩ := lookIn_ns I.ns
  ⟨od, ⟨I.obj, rfl, rfl, ho⟩, hl⟩
section
variable {prog : Program} {w : World} {A : Around} {E : Value → Shared → Prop} {s : Shared} {K : PySem.W.Frag} {x dx C f : Addr} {mA : Str → Option Value} {name : Str} {v : Value}
end
section
variable {P : Program} {w : World} {H H' : Hp} {h h' : Heap} {a C dx : Addr} {fs fs' : List (Str × V)}
theorem ins_get (hok : HOk P w H h) (e : H a = some (.ins C dx fs)) : ∃ mA, ObjM h a dx C mA ∧ (∀ f, RelO (fs.lookup f) (mA f)) ∧ PySem.Within mA (fs.map (·.1)) ∧ fs.length ≤ 1000 ∧ H dx = some (.own a) := by
  obtain ⟨d, z, ne, ob, mA, n, r, q⟩ := (show ObjOk P w H h a (.ins C dx fs) from hok a _ e)
  exact ⟨mA, ⟨ob, n, ne⟩, r, q, z, d⟩
end
structure Cls (K : PySem.W.Frag) (C : Addr) : Prop where
  pg : PySem.W.plainGet K C Str.empty = true
  hd : PySem.W.hasDictIn K C = true
  po : PySem.W.plainOver K C = true
  sa : PySem.W.findIn K (.ref C) "__setattr__" = some (some (.builtin "object.__setattr__"))
theorem Cls.get {K : PySem.W.Frag} {C : Addr} (c : Cls K C) (f : Str) : PySem.W.plainGet K C f = true := c.pg
structure Meth (K : PySem.W.Frag) (C : Addr) (m : Str) (f : Addr) : Prop where
  at_ : PySem.W.findIn K (.ref C) m = some (some (.ref f))
  fn : PySem.W.isFn K (.ref f) = true
  kp : PySem.W.keepIn K (.ref f) = true
section
variable {X : Cx} {pins : List (Addr × Obj)} {σ : St} {H : Hp} {s : Shared} {a C dx : Addr} {fs : List (Str × V)} {f : Str} {v : V} {A : Around} {E : Value → Shared → Prop}
end
section
variable {X : Cx} {o e value : Expr} {f : Str} {pos pos' tpos : Pos} {ta tv : TE}
end
section
variable {X : Cx} {pins : List (Addr × Obj)} {σ : St} {H : Hp} {s : Shared} {A : Around} {E : Value → Shared → Prop} {Q : Value → Shared → Prop} {c : Value} {b : Bool}
inductive TyOf (K : PySem.W.Frag) (H : Hp) : V → Value → Prop where
  | non : TyOf K H .non (.type "NoneType")
  | bl (x : Bool) : TyOf K H (.bl x) (.type "bool")
  | int (i : Int) : TyOf K H (.int i) (.type "int")
  | str (x : Str) : TyOf K H (.str x) (.type "str")
  | flt (x : UInt64) : TyOf K H (.flt x) (.type "float")
  | lst {a : Addr} {xs : List V} (e : H a = some (.lst xs)) : TyOf K H (.ref a) (.type "list")
  | frz {a : Addr} {o : Obj} {xs : List V} (e : H a = some (.frz o (.lst xs))) : TyOf K H (.ref a) (.type "list")
  | tup {a : Addr} {xs : List V} (e : H a = some (.tup xs)) : TyOf K H (.ref a) (.type "tuple")
  | dK {a : Addr} {kvs : List (Key × V)} (e : H a = some (.dK kvs)) : TyOf K H (.ref a) (.type "dict")
  | dT {a : Addr} {kvs : List (List Key × V)} (e : H a = some (.dT kvs)) : TyOf K H (.ref a) (.type "dict")
  | ins {a C dx : Addr} {fs : List (Str × V)} (e : H a = some (.ins C dx fs)) (cl : Cls K C) (ha : PySem.W.findIn K (.ref C) "__class__" = some (some (.builtin "object.__class__")))
      (hn : PySem.W.specialIn K (.builtin "object.__class__") "__get__" = some (some (.builtin "getset_descriptor.__get__"))) (htk : PySem.W.takesIn K (.builtin "object.__class__") = some true)
      (hm : PySem.W.mroIn K C (.type "object") = some true) : TyOf K H (.ref a) (.ref C)
theorem isinst_ok {x : V} {u t : Value} (I : Inv X pins σ H s) (rx : RelV x u) (ty : TyOf X.K H x t) (e : PySem.W.kitOne X.K t c = some b) (h : ∀ tk, Q (.bool b) { s with toks := tk }) :
    wpAny (model X.prog X.w) A (call (.builtin "isinstance") [u, c]) Q E s := by
  cases ty with
  | non => cases (show u = Value.none from rx); exact PySem.W.kia_one PySem.W.kitx_none I.kIn True.intro e (fun z => nomatch z) h
  | bl y => cases (show u = Value.bool y from rx); exact PySem.W.kia_one PySem.W.kitx_bool I.kIn True.intro e (fun z => nomatch z) h
  | int i => obtain ⟨t, q⟩ := (show ∃ t, u = Value.int i t from rx); cases q; exact PySem.W.kia_one PySem.W.kitx_int I.kIn True.intro e (fun z => nomatch z) h
  | str y => obtain ⟨t, q⟩ := (show ∃ t, u = Value.str y t from rx); cases q; exact PySem.W.kia_one PySem.W.kitx_str I.kIn True.intro e (fun z => nomatch z) h
  | flt y => obtain ⟨t, q⟩ := (show ∃ t, u = Value.float y t from rx); cases q; exact PySem.W.kia_one PySem.W.kitx_float I.kIn True.intro e (fun z => nomatch z) h
  | @lst a xs ea =>
    cases (show u = Value.ref a from rx)
    obtain ⟨_, _, n, _, h1⟩ := (show ObjOk X.prog X.w H s.heap a (.lst xs) from I.hok a _ ea)
    exact PySem.W.kia_one PySem.W.kitx_list I.kIn ⟨_, h1, rfl⟩ e (fun z => nomatch z) h
  | @frz a ob xs ea =>
    cases (show u = Value.ref a from rx)
    obtain ⟨_, _, _, n, _, h1⟩ := (show ObjOk X.prog X.w H s.heap a (.frz ob (.lst xs)) from I.hok a _ ea)
    exact PySem.W.kia_one PySem.W.kitx_list I.kIn ⟨_, h1, rfl⟩ e (fun z => nomatch z) h
  | @tup a xs ea =>
    cases (show u = Value.ref a from rx)
    obtain ⟨_, _, _, p⟩ := (show ObjOk X.prog X.w H s.heap a (.tup xs) from I.hok a _ ea)
    obtain ⟨o, h1, h2, _⟩ := p
    exact PySem.W.kia_one PySem.W.kitx_tuple I.kIn ⟨o, h1, h2⟩ e (fun z => nomatch z) h
  | @dK a kvs ea =>
    cases (show u = Value.ref a from rx)
    obtain ⟨_, _, vs, _, p⟩ := (show ObjOk X.prog X.w H s.heap a (.dK kvs) from I.hok a _ ea)
    obtain ⟨o, es, ep, h1, h2, _⟩ := p
    exact PySem.W.kia_one PySem.W.kitx_dict I.kIn ⟨o, h1, h2.1⟩ e (fun z => nomatch z) h
  | @dT a kvs ea =>
    cases (show u = Value.ref a from rx)
    obtain ⟨_, _, xs, _, o, es, ep, h1, h2, _⟩ := (show ObjOk X.prog X.w H s.heap a (.dT kvs) from I.hok a _ ea)
    exact PySem.W.kia_one PySem.W.kitx_dict I.kIn ⟨o, h1, h2.1⟩ e (fun z => nomatch z) h
  | @ins a C dx fs ea cl ha hn htk hm =>
    cases (show u = Value.ref a from rx)
    obtain ⟨mA, O, _⟩ := ins_get I.hok ea
    obtain ⟨od, J, _⟩ := O.look
    exact PySem.W.kia_one (PySem.W.kitx_own (cl.get _) cl.hd ha hn htk hm) I.kIn J e (fun z => nomatch z) h
end
end L2
namespace L2
open PySem PySem.Spec PyProof.Rows
structure Room (k : Nat) (A : Around) : Prop where
  hd : A.handled = none
  dp : A.depth + 3 * k + 5 < recursionLimit
  un : A.units + 16 * k + 200 < cLine
theorem Room.mono {j k : Nat} {A : Around} (r : Room k A) (h : j ≤ k) : Room j A := ⟨r.hd, by have := r.dp; omega, by have := r.un; omega⟩
theorem Room.deeper {k : Nat} {A : Around} (r : Room (k + 1) A) (env : Env) : Room k (A.deeper env) :=
  ⟨r.hd, by have := r.dp; show A.depth + 1 + 3 * k + 5 < _; omega, by have := r.un; show A.units + 3 + 16 * k + 200 < _; omega⟩
theorem Room.in1 {k : Nat} {A : Around} (r : Room (k + 1) A) : Room k A.in1 :=
  ⟨r.hd, by have := r.dp; show A.depth + 3 * k + 5 < _; omega, by have := r.un; show A.units + 1 + 16 * k + 200 < _; omega⟩
theorem Room.depth {k : Nat} {A : Around} (r : Room k A) : A.depth < recursionLimit := by have := r.dp; omega
theorem Room.units {k : Nat} {A : Around} (r : Room k A) : A.units + 64 < cLine := by have := r.un; omega
theorem Room.units0 {k : Nat} {A : Around} (r : Room k A) : A.units < cLine := by have := r.un; omega
def tNil : TA := fun _ H Q => Q [] H
def tCons (ta : TE) (tr : TA) : TA := fun σ H Q => ta σ H fun x H1 => tr σ H1 fun xs H2 => Q (x :: xs) H2
section
variable {X : Cx} {e : Expr} {es : List Expr} {te : TE} {t : TA} {pos : Pos}
theorem pa_nil : PA X [] tNil := fun _ _ _ _ H Q I h => Calls.spliced_nil ⟨[], H, I, .nil, h⟩
theorem pa_cons (ha : PE X e te) (hr : PA X es t) (hs : starEach (e :: es) X.env = (false, eval e X.env) :: starEach es X.env := by rfl) : PA X (e :: es) (tCons te t) := by
  intro pos pins s σ H Q I h
  rw [hs]
  show wpAny _ _ (spliced ((false, eval e X.env) :: backTo pos (starEach es X.env))) _ _ s
  refine Calls.spliced_cons (thn (ha pins s σ H _ I h) fun u s1 ⟨x, H1, I1, r1, q1⟩ => ?_)
  exact thn (hr pos pins s1 σ H1 _ I1 q1) fun us s2 ⟨xs, H2, I2, r2, q2⟩ => ⟨x :: xs, H2, I2, .cons r1 r2, q2⟩
def tTup (t : TA) : TE := fun σ H Q => t σ H fun xs H1 => xs.length ≤ sizeLine ∧ ∀ p, H1 p = none → Q (.ref p) (upd H1 p (.tup xs))
def tLst (t : TA) : TE := fun σ H Q => t σ H fun xs H1 => xs.length ≤ sizeLine ∧ ∀ p, H1 p = none → Q (.ref p) (upd H1 p (.lst xs))
theorem pe_tup {x1} (h : PA X es t) : PE X (.Tuple es x1 pos) (tTup t) := by
  intro pins s σ H Q I hq
  refine wpAny_Tuple_spliced (thn (h pos pins s σ H _ I hq) fun us s1 ⟨xs, H1, I1, r, z, q⟩ => ⟨by rw [← r.length]; exact z, ?_⟩)
  have hf : H1 s1.heap.objs.size = none := I1.hok.fresh (Nat.le_refl _)
  refine ⟨.ref s1.heap.objs.size, upd H1 s1.heap.objs.size (.tup xs), I1.laid (t' := s1.toks) (fun b u e => Heap.get?_push_of_some _ e) (Nat.le_refl _) ?_, rfl, q _ hf⟩
  exact ⟨z, us, r, ⟨_, Heap.get?_push_size _ rfl, rfl, _, rfl⟩⟩
theorem pe_lst (h : PA X es t) : PE X (.List es pos) (tLst t) := by
  intro pins s σ H Q I hq
  refine wpAny_List_spliced (thn (h pos pins s σ H _ I hq) fun us s1 ⟨xs, H1, I1, r, z, q⟩ => ⟨by rw [← r.length]; exact z, ?_⟩)
  have hf : H1 s1.heap.objs.size = none := I1.hok.fresh (Nat.le_refl _)
  refine ⟨.ref s1.heap.objs.size, upd H1 s1.heap.objs.size (.lst xs), I1.laid (t' := s1.toks) (fun b u e => Heap.get?_push_of_some _ e) (Nat.le_refl _) ?_, rfl, q _ hf⟩
  exact ⟨z, us, 0, r, Heap.get?_push_size _ rfl⟩
end
abbrev Sp := List V → Hp → VK → XK → Prop
abbrev CXT := List Env → Hp → Shared → XK → Value → Shared → Prop
structure Env0 (P : Program) (w : World) (K : PySem.W.Frag) (mg : Str → Option Value) (base : Heap) (A : Around) (outer : List Env) (s : Shared) (H : Hp) : Prop where
  frames : A.frames = some outer
  mod : Mod K mg base
  bs : ∀ b o, base.get? b = some o → s.heap.get? b = some o ∧ H b = none
  bsz : base.objs.size ≤ s.heap.objs.size
  funs : s.heap.FunFrames base outer
  frf : ∀ b ∈ frs outer, H b = none
  hok : HOk P w H s.heap
  bare : AllBare s.gens
def CE (outer : List Env) (P : Program) (w : World) (H : Hp) (s : Shared) (Q : VK) (u : Value) (s' : Shared) : Prop :=
  ∃ v H', s'.os = s.os ∧ AllBare s'.gens ∧ Un (frs outer) [] H H' s.heap s'.heap ∧ HOk P w H' s'.heap ∧ RelV v u ∧ Q v H'
def CR (CX : CXT) (outer : List Env) (P : Program) (w : World) (H : Hp) (s : Shared) (Q : VK) (E : XK) (r : Result) (s' : Shared) : Prop :=
  match r with
  | .ok (.ret u) => CE outer P w H s Q u s'
  | .ok _ => False
  | .error e => CX outer H s E e s'
structure FnOk (P : Program) (w : World) (K : PySem.W.Frag) (mg : Str → Option Value) (base : Heap) (CX : CXT) (k : Nat) (f : Addr) (fd : FuncData) (ps : List Str) (sp : Sp) : Prop where
  len : ∀ vs H Q E, sp vs H Q E → vs.length = ps.length
  run : ∀ (A : Around) (outer : List Env) (s : Shared) (H : Hp) (args : Args) (us : List Value) (vs : List V) (Q : VK) (E : XK), Room k A → Env0 P w K mg base A outer s H → BindsTo s fd args (ps.zip us) → Vals vs us → sp vs H Q E →
    codeAny (model P w) A (.call (.ref f) args) (CR CX outer P w H s Q E) s
theorem FnOk.mono {P : Program} {w : World} {K : PySem.W.Frag} {mg : Str → Option Value} {base : Heap} {CX : CXT} {j k : Nat} {f : Addr} {fd : FuncData} {ps : List Str} {sp : Sp} (F : FnOk P w K mg base CX j f fd ps sp) (h : j ≤ k) :
    FnOk P w K mg base CX k f fd ps sp := ⟨F.len, fun A outer s H args us vs Q E hr => F.run A outer s H args us vs Q E (hr.mono h)⟩
theorem Env0.in1 {P : Program} {w : World} {K : PySem.W.Frag} {mg : Str → Option Value} {base : Heap} {A : Around} {outer : List Env} {s : Shared} {H : Hp} (e : Env0 P w K mg base A outer s H) :
    Env0 P w K mg base A.in1 outer s H := ⟨e.frames, e.mod, e.bs, e.bsz, e.funs, e.frf, e.hok, e.bare⟩
section
variable {X : Cx} {pins : List (Addr × Obj)} {σ : St} {H : Hp} {s s' : Shared}
theorem Inv.env0 (I : Inv X pins σ H s) : Env0 X.prog X.w X.K X.mg X.base X.A X.stack s H :=
  ⟨I.ok.frames, I.ok.mod, I.bs, Nat.le_trans I.ok.bsz I.sz, I.stack, I.stkFree, I.hok, I.bare⟩
theorem Inv.after {Q : VK} {u : Value} (I : Inv X pins σ H s) (h : CE X.stack X.prog X.w H s Q u s') : EP X pins σ Q u s' := by
  obtain ⟨v, H', os, bare, un, hok, r, q⟩ := h
  obtain ⟨hh, g, d, t, os'⟩ := s'
  obtain rfl : os' = s.os := os
  exact ⟨v, H', I.call (h' := hh) (g' := g) (d' := d) (t' := t) (ch := []) un hok bare (fun b z => absurd z (by simp)), r, q⟩
end
def tCall (sp : Sp) (dvs : List V) (E : XK) (t : TA) : TE := fun σ H Q => t σ H fun vs H1 => sp (vs ++ dvs) H1 Q E
def Binds (K : PySem.W.Frag) (fd : FuncData) (ps : List Str) (ds : List Value) : Prop :=
  ∀ (s : Shared) (us : List Value), K.In s.heap → (us ++ ds).length = ps.length → BindsTo s fd ⟨us, []⟩ (ps.zip (us ++ ds))
theorem Binds.all {K : PySem.W.Frag} {fd : FuncData} {ps : List Str} (h : ∀ us : List Value, us.length = ps.length → bindArgs fd ⟨us, []⟩ = pure (ps.zip us)) : Binds K fd ps [] := fun s us _ hl => by
  rw [List.append_nil] at hl ⊢
  exact .of_eq (h us hl)
def Passes (CX : CXT) (X : Cx) (E : XK) : Prop := ∀ (pins : List (Addr × Obj)) (σ : St) (H : Hp) (s : Shared) (e : Value) (s' : Shared), Inv X pins σ H s → CX X.stack H s E e s' → X.xe e s'
section
variable {X : Cx} {CX : CXT} {k : Nat} {f C : Addr} {fd : FuncData} {ps : List Str} {sp : Sp} {dvs : List V} {ds : List Value} {E : XK} {x m : Str} {p pos apos : Pos} {e o : Expr} {es : List Expr} {ta : TE} {t : TA}
theorem run_fn {pins : List (Addr × Obj)} {σ : St} {H : Hp} {s : Shared} {Q : VK} {us : List Value} {vs : List V} (F : FnOk X.prog X.w X.K X.mg X.base CX k f fd ps sp) (hr : Room k X.A) (hb : Binds X.K fd ps ds) (hd : Vals dvs ds) (hx : Passes CX X E)
    (I : Inv X pins σ H s) (r : Vals vs us) (h : sp (vs ++ dvs) H Q E) : wpAny (model X.prog X.w) X.A (call (.ref f) us) (EP X pins σ Q) X.xe s := by
  have r2 : Vals (vs ++ dvs) (us ++ ds) := r.append hd
  have hl : (us ++ ds).length = ps.length := by rw [← r2.length]; exact F.len _ _ _ _ h
  refine wpAny_call (codeAny_mono (F.run X.A X.stack s H ⟨us, []⟩ (us ++ ds) (vs ++ dvs) Q E hr I.env0 (hb s us I.kIn hl) r2 h) fun r s' hq => ?_)
  cases r with
  | error e => exact hx pins σ H s e s' I hq
  | ok fl =>
    cases fl with
    | ret u => exact I.after hq
    | next => exact False.elim hq
    | brk => exact False.elim hq
    | cont => exact False.elim hq
theorem pe_call (F : FnOk X.prog X.w X.K X.mg X.base CX k f fd ps sp) (hr : Room k X.A) (hg : Gl X x) (hm : X.mg x = some (.ref f)) (hk : PySem.W.keepIn X.K (.ref f) = true) (hb : Binds X.K fd ps ds) (hd : Vals dvs ds) (hx : Passes CX X E)
    (ha : PA X (e :: es) t) (hdb : (x == ("__debug__" : Str)) = false := by decide) (he : starEach (e :: es) X.env = (false, eval e X.env) :: starEach es X.env := by rfl) (hpl : (backTo pos (starEach es X.env)).any (·.1) = false := by rfl) :
    PE X (.Call (.Name x p) (e :: es) [] pos) (tCall sp dvs E t) := by
  intro pins s σ H Q I h
  refine wpAny_Call_Name_kw (ld_glob I hg hm ?_ hdb)
  refine PySem.W.callWith_K (h₀ := X.base) I.ok.mod.kin hk (thn (ha pos pins s σ H _ I h) fun us s1 ⟨vs, H1, I1, r, q⟩ => ⟨I1.kIn, ?_⟩) he hpl
  exact run_fn F hr hb hd hx I1 r q
structure Mk (K : PySem.W.Frag) (C f : Addr) : Prop where
  makes : PySem.W.makesIn K C = true
  init : PySem.W.findIn K (.ref C) "__init__" = some (some (.ref f))
  fn : PySem.W.isFn K (.ref f) = true
  kp : PySem.W.keepIn K (.ref C) = true
end
def PK (X : Cx) (kws : List Keyword) (t : TA) : Prop :=
  ∀ (pos : Pos) (pins : List (Addr × Obj)) (s : Shared) (σ : St) (H : Hp) (Q : List V → Hp → Prop), Inv X pins σ H s → t σ H Q → wpAny (model X.prog X.w) X.A (evalAll ((backToKw pos (keywordEach kws X.env)).map (·.2))) (AP X pins σ Q) X.xe s
section
variable {X : Cx} {CX : CXT} {k : Nat} {f C : Addr} {fd : FuncData} {ps ks : List Str} {sp : Sp} {E : XK} {x m : Str} {p pos apos kpos : Pos} {e o : Expr} {es : List Expr} {kws : List Keyword} {te ta : TE} {t tk : TA} {nm : Option Str}
theorem pk_nil : PK X [] tNil := fun _ _ _ _ H Q I h => wpAny_evalAll_nil ⟨[], H, I, .nil, h⟩
theorem pk_cons (ha : PE X e te) (hr : PK X kws t) : PK X (⟨nm, e, kpos⟩ :: kws) (tCons te t) := by
  intro pos pins s σ H Q I h
  show wpAny _ _ (evalAll ((do let v ← eval e X.env; standAt pos; pure v) :: (backToKw pos (keywordEach kws X.env)).map (·.2))) _ _ s
  refine wpAny_evalAll_cons (wpAny_bind (thn (ha pins s σ H _ I h) fun u s1 ⟨x, H1, I1, r1, q1⟩ => wpAny_bind (wpAny_standAt (wpAny_pure ?_))))
  exact thn (hr pos pins s1 σ H1 _ I1 q1) fun us s2 ⟨xs, H2, I2, r2, q2⟩ => ⟨x :: xs, H2, I2, .cons r1 r2, q2⟩
structure KBinds (K : PySem.W.Frag) (fd : FuncData) (ps ks : List Str) (g : List Value → List Value → List Value) (gV : List V → List V → List V) : Prop where
  to : ∀ (s : Shared) (us ws : List Value), K.In s.heap → (g us ws).length = ps.length → BindsTo s fd ⟨us, ks.zip ws⟩ (ps.zip (g us ws))
  rel : ∀ {vs : List V} {us : List Value} {zs : List V} {ws : List Value}, Vals vs us → Vals zs ws → Vals (gV vs zs) (g us ws)
variable {g : List Value → List Value → List Value} {gV : List V → List V → List V}
end
structure FnScope (N P : List Str) (sc : Scope) : Prop where
  kind : sc.kind = .function
  co : sc.isCoroutine = false
  gen : sc.isGenerator = false
  nd : N.Nodup
  pre : N.take P.length = P
  par : ∀ x ∈ P, sc.names.lookup x = some .local ∨ sc.names.lookup x = some .cell
  nofree : ∀ y ∈ sc.names, y.2 ≠ .free
theorem bindL_out {kindOf : Str → Option NameKind} {x : Str} : ∀ {binds : List (Str × Value)} {m : Str → Option Value}, (∀ v, (x, v) ∉ binds) → bindL kindOf binds m x = m x
  | [], _, _ => rfl
  | (n, v) :: r, m, h => by
    unfold bindL
    rw [bindL_out fun w hw => h w (List.mem_cons_of_mem _ hw)]
    split
    · have : x ≠ n := by rintro rfl; exact h v List.mem_cons_self
      simp [this]
    · rfl
theorem bindC_out {kindOf : Str → Option NameKind} {x : Str} : ∀ {binds : List (Str × Value)} {m : Str → Option Value}, (∀ v, (x, v) ∉ binds) → bindC kindOf binds m x = m x
  | [], _, _ => rfl
  | (n, v) :: r, m, h => by
    unfold bindC
    rw [bindC_out fun w hw => h w (List.mem_cons_of_mem _ hw)]
    split
    · rfl
    · have : x ≠ n := by rintro rfl; exact h v List.mem_cons_self
      simp [this]
theorem bindL_get {kindOf : Str → Option NameKind} {x : Str} {v : Value} : ∀ {P : List Str} {vs : List Value} {i : Nat} {m : Str → Option Value}, P.Nodup → P[i]? = some x → vs[i]? = some v → kindOf x = some .local →
    bindL kindOf (P.zip vs) m x = some v
  | [], _, _, _, _, h, _, _ => by simp at h
  | _ :: _, [], _, _, _, _, h, _ => by simp at h
  | p :: P, w :: vs, 0, m, nd, h1, h2, hk => by
    simp at h1 h2; subst h1; subst h2
    show bindL kindOf ((p, w) :: P.zip vs) m p = _
    unfold bindL
    rw [bindL_out fun v hv => (List.nodup_cons.mp nd).1 (List.of_mem_zip hv).1, if_pos hk]
    simp
  | p :: P, w :: vs, i + 1, m, nd, h1, h2, hk => by
    show bindL kindOf ((p, w) :: P.zip vs) m x = _
    unfold bindL
    exact bindL_get (i := i) (List.nodup_cons.mp nd).2 (by simpa using h1) (by simpa using h2) hk
theorem bindC_get {kindOf : Str → Option NameKind} {x : Str} {v : Value} : ∀ {P : List Str} {vs : List Value} {i : Nat} {m : Str → Option Value}, P.Nodup → P[i]? = some x → vs[i]? = some v → kindOf x ≠ some .local →
    bindC kindOf (P.zip vs) m x = some v
  | [], _, _, _, _, h, _, _ => by simp at h
  | _ :: _, [], _, _, _, _, h, _ => by simp at h
  | p :: P, w :: vs, 0, m, nd, h1, h2, hk => by
    simp at h1 h2; subst h1; subst h2
    show bindC kindOf ((p, w) :: P.zip vs) m p = _
    unfold bindC
    rw [bindC_out fun v hv => (List.nodup_cons.mp nd).1 (List.of_mem_zip hv).1, if_neg hk]
    simp
  | p :: P, w :: vs, i + 1, m, nd, h1, h2, hk => by
    show bindC kindOf ((p, w) :: P.zip vs) m x = _
    unfold bindC
    exact bindC_get (i := i) (List.nodup_cons.mp nd).2 (by simpa using h1) (by simpa using h2) hk
def start (N : List Str) (vs : List V) : St := vs.map some ++ List.replicate (N.length - vs.length) none
def cxOf (CX : CXT) (P : Program) (w : World) (K : PySem.W.Frag) (mg : Str → Option Value) (base : Heap) (N : List Str) (qual : Str) (scope : Scope) (f : Addr) (cd : Value) (A : Around) (outer : List Env) (s : Shared) (H : Hp) (E : XK) : Cx where
  prog := P
  w := w
  K := K
  mg := mg
  base := base
  A := A.deeper (envOfC qual scope s.heap.objs.size f cd)
  N := N
  s₀ := s
  H₀ := H
  env := envOfC qual scope s.heap.objs.size f cd
  outer := outer
  stack := envOfC qual scope s.heap.objs.size f cd :: outer
  ex := []
  calm := true
  fn := fun _ => true
  pn := []
  xe := fun e s' => wpAny (model P w) (A.deeper (envOfC qual scope s.heap.objs.size f cd)) («leaving» (envOfC qual scope s.heap.objs.size f cd) e) (fun _ s'' => CX outer H s E e s'') (fun e' s'' => CX outer H s E e' s'') s'
theorem cell_has {sc : Scope} {n : Nat} {x : Str} (h : sc.names.lookup x = some .cell) : ∃ c, (cellsFrom n sc.names []).lookup x = some c := by
  have q := PySem.W.cellsFrom_some sc.names n [] (.inl h)
  exact Option.isSome_iff_exists.mp q
theorem inv_start {CX : CXT} {P : Program} {w : World} {K : PySem.W.Frag} {mg : Str → Option Value} {base : Heap} {N ps : List Str} {qual : Str} {scope : Scope} {f : Addr} {cd : Value} {A : Around} {outer : List Env} {s s1 : Shared} {H : Hp} {E : XK} {us : List Value} {vs : List V}
    (S : FnScope N ps scope) (hd : A.handled = none) (e0 : Env0 P w K mg base A outer s H) (hl : vs.length = ps.length) (r : Vals vs us)
    (x : InCallC s s.heap.objs.size (bindL (envOfC qual scope s.heap.objs.size f cd).kindOf (ps.zip us) fun _ => none) (cellsFrom (s.heap.objs.size + 1) scope.names []) (bindC (envOfC qual scope s.heap.objs.size f cd).kindOf (ps.zip us) fun _ => none) s1) :
    Inv (cxOf CX P w K mg base N qual scope f cd A outer s H E) [] (start N vs) H s1 := by
  have hpl : ps.length ≤ N.length := by have := congrArg List.length S.pre; rw [List.length_take] at this; omega
  obtain ⟨h1, tk, rfl, hk⟩ := x.done
  have noA : ∀ b : Addr, b ∉ (cxOf CX P w K mg base N qual scope f cd A outer s H E).ex := fun b z => absurd (show b ∈ ([] : List Addr) from z) (by simp)
  refine ⟨⟨e0.mod, S.kind, rfl, rfl, Nat.le_refl _, fun y z c h1 h2 => ?_, fun y hy => ?_, fun y c _ h => ?_, fun _ => hd, Around.frames_deeper e0.frames, .inr ⟨rfl, rfl⟩, fun b z => absurd z (noA b), e0.bs, e0.bsz, fun b _ _ => noA b, fun b z => absurd z (noA b), e0.funs, e0.frf⟩,
    rfl, e0.bare, Un.kept hk, ⟨_, x.toInCall.ns, fun i y v h1 h2 h3 => ?_⟩, fun y c h => ⟨_, x.cell y c h⟩, e0.hok.fresh (Nat.le_refl _), fun y c h => ?_, fun p hp => absurd (show p ∈ ([] : List (Addr × Obj)) from hp) (by simp), e0.hok.kept hk, ?_⟩
  · exact name_of_addr x.apart (PySem.mem_of_lookup h1) (PySem.mem_of_lookup h2)
  · have hy : scope.names.lookup y = some .cell ∨ scope.names.lookup y = some .free := hy
    rcases hy with hy | hy
    · exact cell_has hy
    · exact absurd rfl (S.nofree _ (PySem.mem_of_lookup hy))
  · exact Nat.le_of_lt (x.above y c (PySem.mem_of_lookup h))
  · have hi : i < vs.length := by
      unfold start at h2
      by_cases hi : i < vs.length
      · exact hi
      · rw [List.getElem?_append_right (by simpa using hi)] at h2
        rw [List.getElem?_replicate] at h2
        split at h2 <;> cases h2
    have ha : vs[i]? = some v := by
      unfold start at h2
      rw [List.getElem?_append_left (by simpa using hi), List.getElem?_map] at h2
      cases e : vs[i]? with
      | none => rw [e] at h2; cases h2
      | some a => rw [e] at h2; cases h2; rfl
    obtain ⟨u, hu, rv⟩ := r.get ha
    have hp : ps[i]? = some y := by
      rw [← S.pre, List.getElem?_take_of_lt (by omega)]; exact h1
    have ndP : ps.Nodup := by rw [← S.pre]; exact S.nd.sublist (List.take_sublist _ _)
    refine ⟨u, rv, ?_⟩
    rcases S.par y (List.mem_of_getElem? hp) with k | k
    · exact .inl ⟨k, bindL_get ndP hp hu k⟩
    · obtain ⟨c, e⟩ := cell_has (n := s.heap.objs.size + 1) k
      refine .inr ⟨.inl k, c, e, ?_⟩
      have q := x.cell y c e
      rw [bindC_get ndP hp hu (by show scope.names.lookup y ≠ _; rw [k]; decide)] at q
      exact q
  · exact e0.hok.fresh (Nat.le_of_lt (x.above y c (PySem.mem_of_lookup h)))
  · unfold start
    show _ = N.length
    rw [List.length_append, List.length_map, List.length_replicate]
    omega
theorem fn_of {CX : CXT} {P : Program} {w : World} {K : PySem.W.Frag} {mg : Str → Option Value} {base : Heap} {k : Nat} {f : Addr} {name qual : Str} {params : Arguments} {body : List Stmt} {scope : Scope} {dV kV doc pm cdv ct oc : Value} {an od : Option Addr}
    {osl : Array (Option Value)} {N ps : List Str} {sp : Sp} (lk : K.lookup f = some ⟨oc, od, .func (PySem.W.fnOf name qual params body scope dV kV doc pm an cdv ct), osl⟩) (hcd : PySem.W.codeIn K cdv qual = true) (S : FnScope N ps scope)
    (len : ∀ vs H Q E, sp vs H Q E → vs.length = ps.length)
    (hbody : ∀ (A : Around) (outer : List Env) (s : Shared) (H : Hp) (vs : List V) (Q : VK) (E : XK), Room k (A.deeper (envOfC qual scope s.heap.objs.size f cdv)) → sp vs H Q E →
      ∃ t, PSs (cxOf CX P w K mg base N qual scope f cdv A outer s H E) body t ∧ t { nx := fun _ H' => Q .non H', rt := Q } (start N vs) H) :
    FnOk P w K mg base CX (k + 1) f (PySem.W.fnOf name qual params body scope dV kV doc pm an cdv ct) ps sp := by
  refine ⟨len, fun A outer s H args us vs Q E hr e0 hb r hsp => ?_⟩
  have hl := len _ _ _ _ hsp
  have KX : K.In s.heap := e0.mod.kin.keeps fun b o e => (e0.bs b o e).1
  have lim : s.heap.NoLimit := e0.mod.nolimit.keeps fun b o e => (e0.bs b o e).1
  have hkind : ∀ y ∈ ps.zip us, scope.names.lookup y.1 = some .local ∨ (scope.names.lookup y.1 = some .cell ∧ ((cellsFrom (s.heap.objs.size + 1) scope.names []).lookup y.1).isSome = true) := fun ⟨n, v⟩ hy => by
    rcases S.par n (List.of_mem_zip hy).1 with q | q
    · exact .inl q
    · exact .inr ⟨q, PySem.W.cellsFrom_some _ _ _ (.inl q)⟩
  refine codeAny_call_function hr.depth (KX _ _ lk) rfl S.co S.gen rfl (PySem.W.codeRec_of KX hcd) (hb _ _ _ _ ?_)
  refine wpAny_newFunctionEnv_cells S.kind hkind fun env he s1 x => ?_
  subst he
  refine ⟨lim.keeps x.toInCall.keep, codeAny_func ?_⟩
  obtain ⟨t, ht, hq⟩ := hbody A outer s H vs Q E (hr.deeper _) hsp
  have I : Inv (cxOf CX P w K mg base N qual scope f cdv A outer s H E) [] (start N vs) H s1 := inv_start S hr.hd e0 hl r x
  refine wpAny_mono (ht [] s1 (start N vs) H _ I hq) (fun fl s' hs => ?_) fun e s' hs => hs
  have fin : ∀ {σ' : St} {H' : Hp} {v : V} {u : Value}, Inv (cxOf CX P w K mg base N qual scope f cdv A outer s H E) [] σ' H' s' → RelV v u → Q v H' → CE outer P w H s Q u s' :=
    fun {σ' H' v u} J rv q => ⟨v, H', J.os, J.bare, J.base, J.hok, rv, q⟩
  cases fl with
  | ret u =>
    obtain ⟨v, σ', H', J, rv, q⟩ := hs
    exact fin J rv q
  | next =>
    obtain ⟨σ', H', J, q⟩ := hs
    exact fin (v := V.non) (u := Value.none) J rfl q
  | brk =>
    obtain ⟨_, _, _, q⟩ := hs
    exact False.elim q
  | cont =>
    obtain ⟨_, _, _, q⟩ := hs
    exact False.elim q
end L2
namespace L2
open PySem PySem.Spec PyProof.Rows
section
variable {X : Cx} {x : Str} {p pos : Pos} {e : Expr} {es : List Expr} {t : TA} {id T : String} {r : List V → Hp → VK → Prop}
def tCB (r : List V → Hp → VK → Prop) (t : TA) : TE := fun σ H Q => t σ H fun vs H1 => r vs H1 Q
theorem pe_callB (hc : CallR X (.builtin id) r) (hg : Gl X x) (hm : X.mg x = none) (hv : bootBuiltins x = some (.builtin id)) (ha : PA X (e :: es) t) (hn : x ≠ "__name__" := by decide) (hdb : (x == ("__debug__" : Str)) = false := by decide)
    (he : starEach (e :: es) X.env = (false, eval e X.env) :: starEach es X.env := by rfl) (hpl : (backTo pos (starEach es X.env)).any (·.1) = false := by rfl) : PE X (.Call (.Name x p) (e :: es) [] pos) (tCB r t) := by
  intro pins s σ H Q I h
  refine wpAny_Call_Name_kw (ld_blt I hg hm hv ?_ hn hdb)
  exact PyProof.Rows.callWith_builtin1 (thn (ha pos pins s σ H _ I h) fun us s1 ⟨vs, H1, I1, r1, q1⟩ => hc pins s1 σ H1 vs us Q I1 r1 q1) he hpl
theorem pe_callTy (hc : CallR X (.type T) r) (hg : Gl X x) (hm : X.mg x = none) (hv : bootBuiltins x = some (.type T)) (ha : PA X (e :: es) t) (hn : x ≠ "__name__" := by decide) (hdb : (x == ("__debug__" : Str)) = false := by decide)
    (he : starEach (e :: es) X.env = (false, eval e X.env) :: starEach es X.env := by rfl) (hpl : (backTo pos (starEach es X.env)).any (·.1) = false := by rfl) : PE X (.Call (.Name x p) (e :: es) [] pos) (tCB r t) := by
  intro pins s σ H Q I h
  refine wpAny_Call_Name_kw (ld_blt I hg hm hv ?_ hn hdb)
  exact PyProof.Rows.callWith_type1 (thn (ha pos pins s σ H _ I h) fun us s1 ⟨vs, H1, I1, r1, q1⟩ => hc pins s1 σ H1 vs us Q I1 r1 q1) he hpl
end
end L2
namespace HT
open PySem PyProof.Rows
section
open PySem.SeqAt
open PySem.AutoSeq1 (wpAny_loadPart')
open PySem.MeetsSeq PySem.MeetsSeq2 PySem.MeetsSeq3
end
section
variable {prog : Program} {w : World} {A : Around} {E : Value → Shared → Prop} {s : Shared}
theorem cat_tup {t b : Addr} {vs ws : List Value} {Q : Value → Shared → Prop} (ht : IsTup s.heap t vs.toArray) (hb : IsTup s.heap b ws.toArray) (hv : vs ≠ [])
    (h1 : ws = [] → Q (.ref t) s) (h2 : ws ≠ [] → Q (.ref s.heap.objs.size) { s with heap := s.heap.push { cls := .type "tuple", data := .seq (vs ++ ws).toArray } })
    (hsz : vs.length + ws.length ≤ sizeLine) : wpAny (model prog w) A (binaryOp .Add (.ref t) (.ref b)) Q E s := by
  obtain ⟨⟨cls, dd, data, sl⟩, ho, hc, n, hd⟩ := id ht
  obtain ⟨⟨cls2, dd2, data2, sl2⟩, ho2, hc2, n2, hd2⟩ := id hb
  simp only at hc hd hc2 hd2
  subst hc hd hc2 hd2
  have e : vs.toArray ++ ws.toArray = (vs ++ ws).toArray := by simp
  by_cases hw : ws = []
  · exact concat_meets ⟨_, ho, rfl⟩ ⟨_, ho2, rfl⟩ noFill_tuple_add seq_tuple_add PySem.F.slot_tuple_add PySem.F.entry_tuple_add (PySem.F.args_tuple_add_2 _ _)
      (tuple_addW1 t b vs.toArray ws.toArray n n2 dd dd2 sl sl2 (by simpa using hv) (by simp [hw])) ⟨ho, ho2, h1 hw⟩
  · refine concat_meets ⟨_, ho, rfl⟩ ⟨_, ho2, rfl⟩ noFill_tuple_add seq_tuple_add PySem.F.slot_tuple_add PySem.F.entry_tuple_add (PySem.F.args_tuple_add_2 _ _)
      (tuple_addW2 t b vs.toArray ws.toArray n n2 dd dd2 sl sl2 (by simpa using hv) (by simpa using hw) (by rw [List.size_toArray, List.size_toArray]; exact hsz)) ⟨ho, ho2, ?_⟩
    rw [e]
    exact h2 hw
def sIx (n d : Nat) : Option Int → Nat
  | none => d
  | some v => if v < 0 then (v + (n : Int)).toNat else min v.toNat n
theorem sIx_le (n d : Nat) (hd : d ≤ n) (o : Option Int) : sIx n d o ≤ n := by
  cases o with
  | none => exact hd
  | some v =>
    show (if v < 0 then (v + (n : Int)).toNat else min v.toNat n) ≤ n
    by_cases hv : v < 0
    · rw [if_pos hv]; omega
    · rw [if_neg hv]; exact Nat.min_le_right _ _
theorem clip_eq (v : Int) (n d : Nat) : (if v < 0 then max (v + (n : Int)) 0 else min v (n : Int)) = ((sIx n d (some v) : Nat) : Int) := by
  show (if v < 0 then max (v + (n : Int)) 0 else min v (n : Int)) = (((if v < 0 then (v + (n : Int)).toNat else min v.toNat n) : Nat) : Int)
  by_cases hv : v < 0
  · simp only [if_pos hv]; omega
  · simp only [if_neg hv]; omega
theorem adjust_gen (lo hi : Option Int) (n : Nat) : Builtin.Slice.sliceAdjust lo hi 1 (n : Int) = (((sIx n 0 lo : Nat) : Int), ((sIx n n hi : Nat) : Int)) := by
  have h1 : ¬ ((1 : Int) < 0) := by omega
  unfold Builtin.Slice.sliceAdjust
  simp only [h1, if_false]
  refine Prod.ext ?_ ?_
  · cases lo with
    | none => rfl
    | some v => exact clip_eq v n 0
  · cases hi with
    | none => rfl
    | some v => exact clip_eq v n n
theorem places_gen (i j : Nat) : Builtin.Slice.slicePlaces (i : Int) (j : Int) 1 = j - i := by
  unfold Builtin.Slice.slicePlaces
  have h1 : (1 : Int) > 0 := by omega
  simp only [h1, if_true, Int.ediv_one]
  split <;> omega
theorem slicePart_ {v : Value} {o : Option Int} {Q : Option Int → Shared → Prop} (p : IsPart v o) (h : Q o s) : wpAny (model prog w) A (Builtin.Slice.slicePartIndex v) Q E s := by
  cases p with
  | none => exact slicePart_none h
  | int i t => exact slicePart_int h
theorem sliceApplied_gen {sl : Addr} {vl vu : Value} {lo hi : Option Int} {n : Nat} {Q : Int × Int × Nat → Shared → Prop} (hs : s.heap.IsSliceOf sl vl vu .none) (pl : IsPart vl lo) (pu : IsPart vu hi)
    (h : Q (((sIx n 0 lo : Nat) : Int), 1, sIx n n hi - sIx n 0 lo) s) : wpAny (model prog w) A (Builtin.Slice.sliceApplied (.ref sl) (pure (n : Int))) Q E s := by
  obtain ⟨os, hos, hcs, hds⟩ := id hs
  unfold Builtin.Slice.sliceApplied Builtin.Slice.sliceFields
  refine wpAny_bind (wpAny_bind (wpAny_field hos hds (x := vl) rfl (wpAny_bind (wpAny_field hos hds (x := vu) rfl (wpAny_bind (wpAny_field hos hds (x := .none) rfl (wpAny_pure ?_)))))))
  refine wpAny_bind (slicePart_none ?_)
  show wpAny _ _ (if ((1 : Int) == 0) = true then _ else _) _ _ s
  rw [if_neg (by decide)]
  refine wpAny_bind (slicePart_ pl (wpAny_bind (slicePart_ pu (wpAny_bind (wpAny_pure ?_)))))
  show wpAny _ _ (match Builtin.Slice.sliceAdjust lo hi 1 (n : Int) with | (lo, hi) => pure (lo, (1 : Int), Builtin.Slice.slicePlaces lo hi 1)) _ _ s
  rw [adjust_gen lo hi n]
  show wpAny _ _ (pure (((sIx n 0 lo : Nat) : Int), (1 : Int), Builtin.Slice.slicePlaces ((sIx n 0 lo : Nat) : Int) ((sIx n n hi : Nat) : Int) 1)) _ _ s
  rw [places_gen]
  exact wpAny_pure h
theorem pick_gen (xs : Array Value) (i k : Nat) : ((List.range k).filterMap fun (m : Nat) => xs[((i : Int) + (m : Int) * 1).toNat]?).toArray = ((xs.toList.drop i).take k).toArray := by
  have e : (fun (m : Nat) => xs[((i : Int) + (m : Int) * 1).toNat]?) = fun m => xs[i + m]? := by
    funext m
    have : ((i : Int) + (m : Int) * 1).toNat = i + m := by omega
    rw [this]
  rw [e]
  have := pick_run xs i k
  rw [List.filterMap_map] at this
  have e2 : ((fun x => xs[x]?) ∘ fun x => i + x) = fun m => xs[i + m]? := rfl
  rw [e2] at this
  rw [this]
theorem getItem_tuple_cut {t sl : Addr} {items : Array Value} {vl vu : Value} {lo hi : Option Int} {Q : Value → Shared → Prop} (ht : IsTup s.heap t items) (hs : s.heap.IsSliceOf sl vl vu .none) (pl : IsPart vl lo) (pu : IsPart vu hi)
    (hw : ¬ (sIx items.size 0 lo = 0 ∧ sIx items.size items.size hi = items.size))
    (h : Q (.ref s.heap.objs.size) { s with heap := s.heap.push { cls := .type "tuple", data := .seq ((items.toList.drop (sIx items.size 0 lo)).take (sIx items.size items.size hi - sIx items.size 0 lo)).toArray } })
    (hsz : items.size ≤ sizeLine) : wpAny (model prog w) A (getItem (.ref t) (.ref sl)) Q E s := by
  have htake : sizeOk (.seq ((items.toList.drop (sIx items.size 0 lo)).take (sIx items.size items.size hi - sIx items.size 0 lo)).toArray) := by
    show ((items.toList.drop (sIx items.size 0 lo)).take (sIx items.size items.size hi - sIx items.size 0 lo)).toArray.size ≤ sizeLine
    rw [List.size_toArray, List.length_take, List.length_drop, Array.length_toList]
    omega
  have hj : sIx items.size items.size hi ≤ items.size := sIx_le _ _ (Nat.le_refl _) hi
  obtain ⟨os, hos, hcs, hds⟩ := id hs
  have hTs : s.TypeIs (.ref sl) "slice" := ⟨os, hos, hcs⟩
  unfold getItem
  try with_reducible refine wpAny_holding ?_
  first | refine wpAny_bind (wpAny_pure ?_) | skip
  refine wpAny_bind (wpAny_sequenceKey ht.typeIs (by decide) ?_)
  refine wpAny_bind (wpAny_callSpecial?_slot (name := Str.ofString "__getitem__") ht.typeIs PyProof.Rows.slot_tuple_getitem
    (wpAny_call_entry PyProof.Rows.slot_tuple_getitem ht.typeIs entry_tuple_getitem ?_ (args_tuple_getitem _ _)))
  show wpAny _ _ (Builtin.Tuple.tupleItemsOf (.ref t) >>= _) _ _ s
  refine wpAny_bind (tupleItemsOf_ ht ?_)
  refine wpAny_bind (wpAny_typeOf hTs ?_)
  rw [if_pos (by decide)]
  refine wpAny_bind (sliceApplied_gen hs pl pu ?_)
  have hno : ¬ ((((sIx items.size 0 lo : Nat) : Int) == 0 && (1 : Int) == 1 && (sIx items.size items.size hi - sIx items.size 0 lo) == items.size) = true) := by
    intro q
    rw [Bool.and_eq_true, Bool.and_eq_true] at q
    have q1 : ((sIx items.size 0 lo : Nat) : Int) = 0 := eq_of_beq q.1.1
    have q2 : sIx items.size items.size hi - sIx items.size 0 lo = items.size := eq_of_beq q.2
    exact hw ⟨by omega, by omega⟩
  show wpAny _ _ (if (((sIx items.size 0 lo : Nat) : Int) == 0 && (1 : Int) == 1 && (sIx items.size items.size hi - sIx items.size 0 lo) == items.size) = true then _ else _) _ _ s
  rw [if_neg hno, pick_gen]
  first
    | exact wpAny_bind (m := Builtin.Tuple.tupleExact _) (wpAny_newObj_type (wpAny_pure ⟨_, rfl, wpAny_pure h⟩) htake)
    | exact wpAny_bind (m := Builtin.Tuple.tupleExact _) (wpAny_newObj_type (wpAny_bind (wpAny_pure (wpAny_pure ⟨_, rfl, wpAny_pure h⟩))) htake)
    | exact wpAny_bind (wpAny_bind (m := Builtin.Tuple.tupleExact _) (wpAny_newObj_type (wpAny_pure (wpAny_pure ⟨_, rfl, wpAny_pure h⟩)) htake))
    | exact wpAny_bind (wpAny_bind (m := Builtin.Tuple.tupleExact _) (wpAny_newObj_type (wpAny_pure ⟨_, rfl, wpAny_pure h⟩) htake))
end
end HT
namespace L2
open PySem PySem.Spec PyProof.Rows
abbrev TO := St → Hp → (Option Int → Hp → Prop) → Prop
def PO (X : Cx) (e : Option Expr) (t : TO) : Prop :=
  ∀ (pins : List (Addr × Obj)) (s : Shared) (σ : St) (H : Hp) (Q : Option Int → Hp → Prop), Inv X pins σ H s → t σ H Q →
    wpAny (model X.prog X.w) X.A (evalPart e X.env) (fun u s' => ∃ o H', Inv X pins σ H' s' ∧ IsPart u o ∧ Q o H') X.xe s
def tNoPart : TO := fun _ H Q => Q none H
def tPart (t : TE) : TO := fun σ H Q => t σ H fun x H1 => ∃ i, x = .int i ∧ Q (some i) H1
theorem intsAre_of {ns : List Int} : ∀ {us : List Value}, Vals (ns.map V.int) us → IntsAre us ns := by
  induction ns with
  | nil => intro us r; rw [List.map_nil] at r; cases r; exact .nil
  | cons n ns ih =>
    intro us r
    rw [List.map_cons] at r
    cases r with
    | cons r1 r2 =>
      obtain ⟨t, e⟩ := r1
      subst e
      exact .cons n t (ih r2)
section
variable {X : Cx} {e : Expr} {te : TE} {lo hi : Option Expr} {tl th : TO} {pos p2 : Pos}
theorem po_none : PO X none tNoPart := by
  intro pins s σ H Q I h
  rw [evalPart_none]
  exact wpAny_pure ⟨none, H, I, .none, h⟩
theorem po_some (h : PE X e te) : PO X (some e) (tPart te) := by
  intro pins s σ H Q I hw
  rw [evalPart_some]
  refine thn (h pins s σ H _ I hw) fun u s1 ⟨x, H1, I1, r1, q1⟩ => ?_
  obtain ⟨i, rfl, q⟩ := q1
  obtain ⟨t, rfl⟩ := r1
  exact ⟨some i, H1, I1, .int i t, q⟩
def SlR (X : Cx) (r : V → Option Int → Option Int → Hp → VK → Prop) : Prop :=
  ∀ (pins : List (Addr × Obj)) (s : Shared) (σ : St) (H : Hp) (x : V) (v vl vu : Value) (lo hi : Option Int) (sl : Addr) (Q : VK), Inv X pins σ H s → RelV x v → s.heap.IsSliceOf sl vl vu .none → IsPart vl lo → IsPart vu hi → r x lo hi H Q →
    ∃ T id, typeLookup (.type T) "__getitem__" = pure (some (.builtin id)) ∧ s.TypeIs v T ∧ wpAny (model X.prog X.w) X.A (getItem v (.ref sl)) (EP X pins σ Q) X.xe s
theorem SlR.or {r r' : V → Option Int → Option Int → Hp → VK → Prop} (h : SlR X r) (h' : SlR X r') : SlR X (fun x lo hi H Q => r x lo hi H Q ∨ r' x lo hi H Q) := by
  intro pins s σ H x v vl vu lo hi sl Q I rx hs pl pu q
  rcases q with q | q
  · exact h pins s σ H x v vl vu lo hi sl Q I rx hs pl pu q
  · exact h' pins s σ H x v vl vu lo hi sl Q I rx hs pl pu q
def tSl (r : V → Option Int → Option Int → Hp → VK → Prop) (te : TE) (tl th : TO) : TE := fun σ H Q => te σ H fun x H1 => tl σ H1 fun l H2 => th σ H2 fun u H3 => r x l u H3 Q
theorem pe_slice {r : V → Option Int → Option Int → Hp → VK → Prop} (hr : SlR X r) (he : PE X e te) (hl : PO X lo tl) (hu : PO X hi th) : PE X (.Subscript e (.Slice lo hi none p2) pos) (tSl r te tl th) := by
  intro pins s σ H Q I h
  refine Subscript_ (thn (he pins s σ H _ I h) fun v s1 ⟨x, H1, I1, r1, q1⟩ => ?_)
  refine wpAny_Slice (thn (hl pins s1 σ H1 _ I1 q1) fun vl s2 ⟨l, H2, I2, pl, q2⟩ => thn (hu pins s2 σ H2 _ I2 q2) fun vu s3 ⟨u, H3, I3, pu, q3⟩ => ?_)
  rw [evalPart_none]
  refine wpAny_pure ?_
  have I4 : Inv X pins σ H3 { s3 with heap := s3.heap.push { cls := .type "slice", data := .fields #[vl, vu, .none] } } := I3.kept (t' := s3.toks) fun b ob q => Heap.get?_push_of_some _ q
  obtain ⟨T, id, hT, ht, hg⟩ := hr pins { s3 with heap := s3.heap.push { cls := .type "slice", data := .fields #[vl, vu, .none] } } σ H3 x v vl vu l u s3.heap.objs.size Q I4 r1 (Heap.IsSliceOf.new ..) pl pu q3
  show wpAny (model X.prog X.w) X.A (subscriptTail e (.Slice lo hi none p2) v (.ref s3.heap.objs.size)) (EP X pins σ Q) X.xe { s3 with heap := s3.heap.push { cls := .type "slice", data := .fields #[vl, vu, .none] } }
  exact tail_any (ops := [.ref s3.heap.objs.size, v]) ht hT hg (by with_unfolding_all rfl)
def cutV (xs : List V) (lo hi : Option Int) : List V := (xs.drop (HT.sIx xs.length 0 lo)).take (HT.sIx xs.length xs.length hi - HT.sIx xs.length 0 lo)
theorem cutV_length (xs : List V) (lo hi : Option Int) : (cutV xs lo hi).length ≤ xs.length := by
  unfold cutV
  rw [List.length_take, List.length_drop]
  omega
def rSlT (K : PySem.W.Frag) : V → Option Int → Option Int → Hp → VK → Prop := fun x lo hi H Q => ∃ a xs, x = .ref a ∧ SqT K H a xs ∧
  ¬ (HT.sIx xs.length 0 lo = 0 ∧ HT.sIx xs.length xs.length hi = xs.length) ∧ ∀ p, H p = none → Q (.ref p) (upd H p (.tup (cutV xs lo hi)))
theorem sl_tup : SlR X (rSlT X.K) := by
  intro pins s σ H x v vl vu lo hi sl Q I rx hs pl pu h
  obtain ⟨a, xs, rfl, hx, hw, q⟩ := h
  cases rx
  obtain ⟨its, r, ht, hz⟩ := I.tuple hx
  have hlen : its.toArray.size = xs.length := by rw [List.size_toArray]; exact r.length.symm
  refine ⟨"tuple", _, PyProof.Rows.slot_tuple_getitem.lookup, ht.typeIs, ?_⟩
  refine HT.getItem_tuple_cut ht hs pl pu (by rw [hlen]; exact hw) ?_ (by rw [hlen]; exact hz)
  rw [hlen]
  refine ⟨.ref s.heap.objs.size, _, I.laid (t' := s.toks) (o := .tup (cutV xs lo hi)) (fun b ob q => Heap.get?_push_of_some _ q) (Nat.le_refl _) ?_, rfl, q _ (I.hok.fresh (Nat.le_refl _))⟩
  exact ⟨Nat.le_trans (cutV_length xs lo hi) hz, _, (r.drop (HT.sIx xs.length 0 lo)).take (HT.sIx xs.length xs.length hi - HT.sIx xs.length 0 lo), IsTup.new _ _⟩
def rCatT (K : PySem.W.Frag) : R2 := fun x y H Q => ∃ a b xs ys, x = .ref a ∧ y = .ref b ∧ SqT K H a xs ∧ SqT K H b ys ∧ xs ≠ [] ∧ xs.length + ys.length ≤ sizeLine ∧
  (ys = [] → Q (.ref a) H) ∧ (ys ≠ [] → ∀ p, H p = none → Q (.ref p) (upd H p (.tup (xs ++ ys))))
theorem Vals.nil_iff {xs : List V} {us : List Value} (r : Vals xs us) : us = [] ↔ xs = [] := by
  cases r with
  | nil => simp
  | cons _ _ => simp
theorem op_catT : OpR X (binaryOp .Add) (rCatT X.K) := by
  intro pins s σ H x y v u Q I rx ry h
  obtain ⟨a, b, xs, ys, rfl, rfl, ha, hb, hx, hz, q1, q2⟩ := h
  cases rx
  cases ry
  obtain ⟨its, r1, p1, _⟩ := I.tuple ha
  obtain ⟨its2, r2, p2, _⟩ := I.tuple hb
  refine HT.cat_tup p1 p2 (fun z => hx (r1.nil_iff.mp z)) (fun z => ⟨.ref a, H, I, rfl, q1 (r2.nil_iff.mp z)⟩) (fun z => ?_) (by rw [← r1.length, ← r2.length]; exact hz)
  refine ⟨.ref s.heap.objs.size, _, I.laid (t' := s.toks) (o := .tup (xs ++ ys)) (fun b ob q => Heap.get?_push_of_some _ q) (Nat.le_refl _) ?_, rfl, q2 (fun w => z (r2.nil_iff.mpr w)) _ (I.hok.fresh (Nat.le_refl _))⟩
  exact ⟨by rw [List.length_append]; exact hz, _, r1.append r2, IsTup.new _ _⟩
end
end L2
namespace L2
open PySem PySem.Spec PyProof.Rows
def ixN (n : Nat) (i : Int) : Option Nat := if 0 ≤ i then (if i < n then some i.toNat else none) else if -(n : Int) ≤ i then some (i + n).toNat else none
def atI {α : Type} (xs : List α) (i : Int) : Option α := (ixN xs.length i).bind fun j => xs[j]?
theorem ixN_seq {n : Nat} {i : Int} {j : Nat} (h : ixN n i = some j) : seqIndex? i n = some j ∧ j < n ∧ -(n : Int) ≤ i ∧ i < n := by
  unfold ixN at h
  by_cases h0 : 0 ≤ i
  · rw [if_pos h0] at h
    by_cases h1 : i < n
    · rw [if_pos h1] at h
      have e : i.toNat = j := Option.some.inj h
      exact ⟨by rw [seqIndex_of h0 h1, e], by omega, by omega, h1⟩
    · rw [if_neg h1] at h; cases h
  · rw [if_neg h0] at h
    by_cases h1 : -(n : Int) ≤ i
    · rw [if_pos h1] at h
      have e : (i + n).toNat = j := Option.some.inj h
      exact ⟨by rw [seqIndex_neg (by omega) h1, e], by omega, h1, by omega⟩
    · rw [if_neg h1] at h; cases h
theorem atI_get {α : Type} {xs : List α} {i : Int} {v : α} (h : atI xs i = some v) : ∃ j, seqIndex? i xs.length = some j ∧ xs[j]? = some v ∧ j < xs.length ∧ -(xs.length : Int) ≤ i ∧ i < xs.length := by
  unfold atI at h
  cases e : ixN xs.length i with
  | none => rw [e] at h; cases h
  | some j =>
    rw [e] at h
    obtain ⟨h1, h2, h3, h4⟩ := ixN_seq e
    exact ⟨j, h1, h, h2, h3, h4⟩
theorem atI_nat {α : Type} {xs : List α} {j : Nat} {v : α} (h : xs[j]? = some v) : atI xs (j : Int) = some v := by
  have hj : j < xs.length := (List.getElem?_eq_some_iff.mp h).1
  have e : ixN xs.length (j : Int) = some j := by
    unfold ixN
    rw [if_pos (by omega), if_pos (by omega)]; simp
  unfold atI; rw [e]; exact h
def PlainIx (b : Expr) : Prop := ∀ o i, subscripted b false o i = operate [o, i] (getItem o i)
def IxR (X : Cx) (r : R2) : Prop :=
  ∀ (value slice : Expr) (pins : List (Addr × Obj)) (s : Shared) (σ : St) (H : Hp) (x y : V) (v u : Value) (Q : VK), Inv X pins σ H s → RelV x v → RelV y u → r x y H Q →
    subscripted slice false v u = operate [v, u] (getItem v u) → wpAny (model X.prog X.w) X.A (subscriptTail value slice v u) (EP X pins σ Q) X.xe s
def MtR (X : Cx) (id : String) (r : V → List V → Hp → VK → Prop) : Prop :=
  ∀ (pins : List (Addr × Obj)) (s : Shared) (σ : St) (H : Hp) (x : V) (xs : List V) (v : Value) (us : List Value) (Q : VK), Inv X pins σ H s → RelV x v → Vals xs us → r x xs H Q →
    wpAny (model X.prog X.w) X.A (call (.builtin id) (v :: us)) (EP X pins σ Q) X.xe s
section
variable {X : Cx} {a b : Expr} {ta tb : TE} {pos : Pos}
theorem IxR.or {r r' : R2} (h : IxR X r) (h' : IxR X r') : IxR X (fun x y H Q => r x y H Q ∨ r' x y H Q) := by
  intro value slice pins s σ H x y v u Q I rx ry q hs
  rcases q with q | q
  · exact h value slice pins s σ H x y v u Q I rx ry q hs
  · exact h' value slice pins s σ H x y v u Q I rx ry q hs
theorem MtR.or {id : String} {r r' : V → List V → Hp → VK → Prop} (h : MtR X id r) (h' : MtR X id r') : MtR X id (fun x xs H Q => r x xs H Q ∨ r' x xs H Q) := by
  intro pins s σ H x xs v us Q I rx rs q
  rcases q with q | q
  · exact h pins s σ H x xs v us Q I rx rs q
  · exact h' pins s σ H x xs v us Q I rx rs q
theorem pe_ix {r : R2} (hr : IxR X r) (ha : PE X a ta) (hb : PE X b tb) (hs : PlainIx b) : PE X (.Subscript a b pos) (tOp r ta tb) := by
  intro pins s σ H Q I h
  exact Subscript_ (binT ha hb I h fun v u s2 x y H2 I2 rx ry q => hr a b pins s2 σ H2 x y v u Q I2 rx ry q (hs _ _))
def rIxL (K : PySem.W.Frag) : R2 := fun x y H Q => ∃ p xs i v, x = .ref p ∧ y = .int i ∧ SqL K H p xs ∧ atI xs i = some v ∧ Q v H
def rIxT (K : PySem.W.Frag) : R2 := fun x y H Q => ∃ p xs i v, x = .ref p ∧ y = .int i ∧ SqT K H p xs ∧ atI xs i = some v ∧ Q v H
theorem ix_list : IxR X (rIxL X.K) := by
  intro value slice pins s σ H x y v u Q I rx ry h hs
  obtain ⟨p, xs, i, z, rfl, rfl, hq, he, q⟩ := h
  cases rx
  obtain ⟨t, rfl⟩ := ry
  obtain ⟨its, r, pl, hz⟩ := I.list hq
  obtain ⟨j, h1, h2, h3, h4, h5⟩ := atI_get he
  obtain ⟨w, ew, rw'⟩ := r.get h2
  have hl := r.length
  have hn := line63
  have fin : EP X pins σ Q w s := ⟨z, H, I, rw', q⟩
  by_cases h0 : 0 ≤ i
  · have hj : i.toNat = j := by
      rw [seqIndex_of h0 h5] at h1
      exact Option.some.inj h1
    exact item_listR pl.isList h0 (by omega) (by rw [hj]; simpa using ew) fin hs
  · have hj : (i + (its.toArray.size : Int)).toNat = j := by
      rw [seqIndex_neg (by omega) h4] at h1
      rw [List.size_toArray, ← hl]
      exact Option.some.inj h1
    exact subscriptTail_builtinR (x := w) pl.isList.typeIs slot_list_getitem.lookup
      (wpAny_getItem_list_neg (Q := fun r s' => r = w ∧ EP X pins σ Q r s') pl.isList (by omega) (by rw [List.size_toArray] <;> omega) (by omega) (by rw [hj]; simpa using ew) ⟨rfl, fin⟩) hs
theorem ix_tup : IxR X (rIxT X.K) := by
  intro value slice pins s σ H x y v u Q I rx ry h hs
  obtain ⟨p, xs, i, z, rfl, rfl, hq, he, q⟩ := h
  cases rx
  obtain ⟨t, rfl⟩ := ry
  obtain ⟨its, r, pl, hz⟩ := I.tuple hq
  obtain ⟨j, h1, h2, h3, h4, h5⟩ := atI_get he
  obtain ⟨w, ew, rw'⟩ := r.get h2
  have hl := r.length
  have hn := line63
  have fin : EP X pins σ Q w s := ⟨z, H, I, rw', q⟩
  exact subscriptTail_builtinR (x := w) pl.typeIs slot_tuple_getitem.lookup
    (getItem_tuple (j := j) (Q := fun r s' => r = w ∧ EP X pins σ Q r s') pl (by omega) (by omega) (by rw [List.size_toArray, ← hl]; exact h1) (by simpa using ew) ⟨rfl, fin⟩) hs
theorem Inv.lst {pins : List (Addr × Obj)} {σ : St} {H : Hp} {s : Shared} {p : Addr} {xs : List V} (I : Inv X pins σ H s) (h : H p = some (.lst xs)) :
    ∃ (its : List Value) (n : Nat), Vals xs its ∧ s.heap.get? p = some { cls := .type "list", data := .seq its.toArray n } ∧ xs.length ≤ sizeLine := by
  obtain ⟨z, its, n, r, e⟩ := I.hok p _ h
  exact ⟨its, n, r, e, z⟩
theorem slice_bounds (lo hi : Option Int) (n : Nat) : (sliceBounds lo hi none n).1 = ((HT.sIx n 0 lo : Nat) : Int) ∧ (sliceBounds lo hi none n).2.1 = ((HT.sIx n n hi : Nat) : Int) ∧ (sliceBounds lo hi none n).2.2 = 1 := by
  refine ⟨?_, ?_, rfl⟩
  · cases lo with
    | none => simp [sliceBounds, HT.sIx]
    | some i =>
      simp only [sliceBounds, HT.sIx, Option.getD_none, show (1 : Int) > 0 by decide, if_true]
      by_cases h : i < 0
      · simp only [h, if_true] <;> omega
      · simp only [h, if_false] <;> omega
  · cases hi with
    | none => simp [sliceBounds, HT.sIx]
    | some i =>
      simp only [sliceBounds, HT.sIx, Option.getD_none, show (1 : Int) > 0 by decide, if_true]
      by_cases h : i < 0
      · simp only [h, if_true] <;> omega
      · simp only [h, if_false] <;> omega
theorem slicePick_cut (its : List Value) (lo hi : Option Int) : slicePick its.toArray lo hi none = ((its.drop (HT.sIx its.length 0 lo)).take (HT.sIx its.length its.length hi - HT.sIx its.length 0 lo)).toArray := by
  obtain ⟨h1, h2, h3⟩ := slice_bounds lo hi its.toArray.size
  unfold slicePick
  rw [h1, h2, h3]
  simp only [sliceRange_one, pick_run, List.size_toArray] <;> rfl
def rSlL (K : PySem.W.Frag) : V → Option Int → Option Int → Hp → VK → Prop := fun x lo hi H Q => ∃ a xs, x = .ref a ∧ SqL K H a xs ∧ ∀ p, H p = none → Q (.ref p) (upd H p (.lst (cutV xs lo hi)))
theorem sl_list : SlR X (rSlL X.K) := by
  intro pins s σ H x v vl vu lo hi sl Q I rx hs pl pu h
  obtain ⟨a, xs, rfl, hx, q⟩ := h
  cases rx
  obtain ⟨its, r, ht, hz⟩ := I.list hx
  have hlen := r.length
  refine ⟨"list", _, slot_list_getitem.lookup, ht.isList.typeIs, ?_⟩
  refine wpAny_getItem_list_slice ht.isList hs pl pu .none (by simp) ?_ (by rw [List.size_toArray] <;> omega)
  rw [slicePick_cut, ← hlen]
  refine ⟨.ref s.heap.objs.size, _, I.laid (t' := s.toks) (o := .lst (cutV xs lo hi)) (fun b ob q => Heap.get?_push_of_some _ q) (Nat.le_refl _) ?_, rfl, q _ (I.hok.fresh (Nat.le_refl _))⟩
  exact ⟨Nat.le_trans (cutV_length xs lo hi) hz, _, 0, (r.drop (HT.sIx xs.length 0 lo)).take (HT.sIx xs.length xs.length hi - HT.sIx xs.length 0 lo), Heap.get?_push_size _ rfl⟩
theorem call_len_seq : CallR X (.builtin "len") (fun xs H Q => ∃ p ys, xs = [.ref p] ∧ (SqL X.K H p ys ∨ SqT X.K H p ys) ∧ Q (.int ys.length) H) := by
  intro pins s σ H xs us Q I r h
  obtain ⟨p, ys, rfl, hq, q⟩ := h
  obtain ⟨u, rfl, rx⟩ := vals1 r
  cases rx
  have hn := line63
  rcases hq with hq | hq
  · obtain ⟨its, r', pl, hz⟩ := I.list hq
    have hlen := r'.length
    exact Calls.call_len_list pl.isList (by simp only [List.size_toArray] <;> omega) ⟨.int ys.length, H, I.tok _, ⟨s.toks + 1, by rw [List.size_toArray, hlen]⟩, q⟩
  · obtain ⟨its, r', pl, hz⟩ := I.tuple hq
    have hlen := r'.length
    exact len_tuple pl (by simp only [List.size_toArray] <;> omega) ⟨.int ys.length, H, I.tok _, ⟨s.toks + 1, by rw [List.size_toArray, hlen]⟩, q⟩
theorem CallR.or {f : Value} {r r' : List V → Hp → VK → Prop} (h : CallR X f r) (h' : CallR X f r') : CallR X f (fun xs H Q => r xs H Q ∨ r' xs H Q) := by
  intro pins s σ H xs us Q I rs q
  rcases q with q | q
  · exact h pins s σ H xs us Q I rs q
  · exact h' pins s σ H xs us Q I rs q
theorem call_list_of : CallR X (.type "list") (fun xs H Q => ∃ p ys, xs = [.ref p] ∧ (SqL X.K H p ys ∨ SqT X.K H p ys) ∧ ∀ l, H l = none → Q (.ref l) (upd H l (.lst ys))) := by
  intro pins s σ H xs us Q I r h
  obtain ⟨p, ys, rfl, hq, q⟩ := h
  obtain ⟨u, rfl, rx⟩ := vals1 r
  cases rx
  have fin : ∀ (its : List Value), Vals ys its → ys.length ≤ sizeLine → ∀ (h' : Heap) (c' : Nat), (∀ b o', s.heap.get? b = some o' → h'.get? b = some o') →
      h'.get? s.heap.objs.size = some { cls := .type "list", dict := none, data := .seq its.toArray c', slots := #[] } → EP X pins σ Q (.ref s.heap.objs.size) { s with heap := h' } := fun its r' hz h' c' kp e =>
    ⟨.ref s.heap.objs.size, _, I.laid (t' := s.toks) kp (Nat.le_refl _) (show ObjOk X.prog X.w _ h' _ (.lst ys) from ⟨hz, its, c', r', e⟩), rfl, q _ (I.hok.fresh (Nat.le_refl _))⟩
  rcases hq with hq | hq
  · obtain ⟨its, r', pl, hz⟩ := I.list hq
    have hlen := r'.length
    obtain ⟨o, ho, hc, n, hd⟩ := pl.isList
    exact call_list_seq p (.inl rfl) ho hc hd (fun h' c' kp e => fin its r' hz h' c' kp e) (by simp only [List.size_toArray] <;> omega)
  · obtain ⟨its, r', pl, hz⟩ := I.tuple hq
    have hlen := r'.length
    obtain ⟨o, ho, hc, n, hd⟩ := pl
    exact call_list_seq p (.inr rfl) ho hc hd (fun h' c' kp e => fin its r' hz h' c' kp e) (by simp only [List.size_toArray] <;> omega)
theorem call_tuple_of : CallR X (.type "tuple") (fun xs H Q => ∃ p ys, xs = [.ref p] ∧ ((SqL X.K H p ys ∧ ∀ l, H l = none → Q (.ref l) (upd H l (.tup ys))) ∨ (SqT X.K H p ys ∧ Q (.ref p) H))) := by
  intro pins s σ H xs us Q I r h
  obtain ⟨p, ys, rfl, h⟩ := h
  obtain ⟨u, rfl, rx⟩ := vals1 r
  cases rx
  rcases h with ⟨hq, q⟩ | ⟨hq, q⟩
  · obtain ⟨its, r', pl, hz⟩ := I.list hq
    have hlen := r'.length
    refine call_tuple_list pl.isList (fun h' kp => ?_) (by simp only [List.size_toArray] <;> omega)
    have I1 : Inv X pins σ H { s with heap := h' } := I.kept (t' := s.toks) kp
    have I2 : Inv X pins σ (upd H h'.objs.size (.tup ys)) { s with heap := h'.push { cls := .type "tuple", data := .seq its.toArray } } :=
      I1.laid (t' := s.toks) (fun b o e => Heap.get?_push_of_some _ e) (Nat.le_refl _) (show ObjOk X.prog X.w _ _ _ (.tup ys) from ⟨hz, its, r', IsTup.new _ _⟩)
    exact ⟨.ref h'.objs.size, _, I2, rfl, q _ (I1.hok.fresh (Nat.le_refl _))⟩
  · obtain ⟨its, r', pl, hz⟩ := I.tuple hq
    exact call_tuple_same pl ⟨.ref p, H, I, rfl, q⟩
def tyV (K : PySem.W.Frag) (T : String) (x : V) (H : Hp) : Prop := match x with
  | .str _ => T = "str"
  | .int _ => T = "int"
  | .ref p => (T = "list" ∧ ∃ xs, SqL K H p xs) ∨ (T = "tuple" ∧ ∃ o, K.lookup p = some o ∧ o.cls = .type "tuple" ∧ o.dict = none) ∨
      (T = "dict" ∧ ((∃ kvs, H p = some (.dK kvs)) ∨ ∃ kvs, H p = some (.dT kvs))) ∨ (T = "set" ∧ ∃ S n, H p = some (.set S n))
  | _ => False
theorem tyV_is {pins : List (Addr × Obj)} {σ : St} {H : Hp} {s : Shared} {T : String} {x : V} {v : Value} (I : Inv X pins σ H s) (r : RelV x v) (ty : tyV X.K T x H) :
    s.TypeIs v T ∧ ∀ a, v = .ref a → ∃ ob, s.heap.get? a = some ob ∧ ob.dict = none := by
  cases x with
  | str z =>
    obtain ⟨t, rfl⟩ := r
    cases (show T = "str" from ty)
    exact ⟨typeIs_str s z t, fun _ e => nomatch e⟩
  | int i =>
    obtain ⟨t, rfl⟩ := r
    cases (show T = "int" from ty)
    exact ⟨typeIs_int s i t, fun _ e => nomatch e⟩
  | ref p =>
    cases r
    rcases ty with ⟨rfl, xs, hq⟩ | ⟨rfl, o, hk, hc, hd⟩ | ⟨rfl, hk⟩ | ⟨rfl, S, n, hk⟩
    · obtain ⟨its, _, pl, _⟩ := I.list hq
      refine ⟨pl.isList.typeIs, fun a e => ?_⟩
      cases e
      obtain ⟨o, n, e, c, hd, _⟩ := pl
      exact ⟨o, e, hd⟩
    · refine ⟨⟨o, I.kIn p o hk, hc⟩, fun a e => ?_⟩
      cases e
      exact ⟨o, I.kIn _ o hk, hd⟩
    · have z : ∃ o, s.heap.get? p = some o ∧ o.ExactDict := by
        rcases hk with ⟨kvs, hk⟩ | ⟨kvs, hk⟩
        · obtain ⟨_, _, _, _, o, _, _, e, ex, _⟩ := I.hok p _ hk
          exact ⟨o, e, ex⟩
        · obtain ⟨_, _, _, _, o, _, _, e, ex, _⟩ := I.hok p _ hk
          exact ⟨o, e, ex⟩
      obtain ⟨o, e, ex⟩ := z
      refine ⟨⟨o, e, ex.1⟩, fun a e2 => ?_⟩
      cases e2
      exact ⟨o, e, ex.2.1⟩
    · obtain ⟨o, _, _, _, e, ex, _⟩ := I.hok p _ hk
      refine ⟨⟨o, e, ex.1⟩, fun a e2 => ?_⟩
      cases e2
      exact ⟨o, e, ex.2.1⟩
  | _ => exact False.elim ty
def tBM0 (K : PySem.W.Frag) (T : String) (r : V → List V → Hp → VK → Prop) (to : TE) : TE := fun σ H Q => to σ H fun x H1 => tyV K T x H1 ∧ r x [] H1 Q
def tBM (K : PySem.W.Frag) (T : String) (r : V → List V → Hp → VK → Prop) (to : TE) (t : TA) : TE := fun σ H Q => to σ H fun x H1 => tyV K T x H1 ∧ t σ H1 fun xs H2 => r x xs H2 Q
variable {o e : Expr} {es : List Expr} {to : TE} {t : TA} {name : Str} {apos cpos : Pos} {T id : String} {r : V → List V → Hp → VK → Prop}
theorem pe_bm0 (pa : PlainAttrs T) (slot : Slot T name id) (hty : typeOf (.builtin id) = pure (.type "method_descriptor")) (hm : MtR X id r) (ho : PE X o to)
    (hbase : attributeBase o name X.env (eval o X.env) = eval o X.env := by rfl) (hline : (apos.endLine == cpos.line) = true := by rfl) : PE X (.Call (.Attribute o name apos) [] [] cpos) (tBM0 X.K T r to) := by
  intro pins s σ H Q I h
  refine wpAny_Call_method0_late hbase hline (thn (ho pins s σ H _ I h) fun v s1 ⟨x, H1, I1, r1, ty, q1⟩ => ?_)
  obtain ⟨h1, h2⟩ := tyV_is I1 r1 ty
  exact ⟨T, id, pa, slot, hty, h1, h2, Calls.callWith_builtin rfl (PySem.evalArgs_none (hm pins s1 σ H1 x [] v [] Q I1 r1 .nil q1))⟩
theorem pe_bm (pa : PlainAttrs T) (slot : Slot T name id) (hty : typeOf (.builtin id) = pure (.type "method_descriptor")) (hm : MtR X id r) (ho : PE X o to) (ha : PA X (e :: es) t)
    (hbase : attributeBase o name X.env (eval o X.env) = eval o X.env := by rfl)
    (hfew : ((backTo cpos (starEach (e :: es) X.env)).all (fun x => !x.1) && (backToKw cpos (keywordEach [] X.env)).all (fun x => x.1.isSome)
      && decide ((e :: es).length + ([] : List Keyword).length + (if ([] : List Keyword).isEmpty then 0 else 1) < 30)) = true := by rfl)
    (hline : (apos.endLine == cpos.line) = true := by rfl) (hs : starEach (e :: es) X.env = (false, eval e X.env) :: starEach es X.env := by rfl) (hplain : (backTo cpos (starEach es X.env)).any (·.1) = false := by rfl) :
    PE X (.Call (.Attribute o name apos) (e :: es) [] cpos) (tBM X.K T r to t) := by
  intro pins s σ H Q I h
  refine wpAny_Call_method_late hbase hfew hline rfl (thn (ho pins s σ H _ I h) fun v s1 ⟨x, H1, I1, r1, ty, q1⟩ => ?_)
  obtain ⟨h1, h2⟩ := tyV_is I1 r1 ty
  refine ⟨T, id, pa, slot, hty, h1, h2, ?_⟩
  have hA := ha cpos pins s1 σ H1 _ I1 q1
  rw [hs] at hA ⊢
  refine Calls.callWith_builtin (by show (false || (backTo cpos (starEach es X.env)).any (·.1)) = false; rw [hplain] <;> rfl) (Calls.evalArgs_plain ?_)
  exact thn hA fun us s2 ⟨vs, H2, I2, r2, q2⟩ => hm pins s2 σ H2 x vs v us Q I2 r1 r2 q2
end
end L2
namespace L2
open PySem PySem.Spec PyProof.Rows
def MtM (X : Cx) (id : String) (r : V → List V → Hp → VK → Prop) : Prop :=
  ∀ (pins : List (Addr × Obj)) (s : Shared) (σ : St) (H : Hp) (x : V) (xs : List V) (v : Value) (us : List Value) (Q : VK), Inv X pins σ H s → RelV x v → Vals xs us → r x xs H Q →
    wpAny (model X.prog X.w) X.A (call (.builtin id) (v :: us)) (EP X pins σ Q) X.xe s
theorem Vals.one : ∀ {x : V} {us : List Value}, Vals [x] us → ∃ u, us = [u] ∧ RelV x u
  | _, _, .cons r .nil => ⟨_, rfl, r⟩
theorem Vals.two : ∀ {x y : V} {us : List Value}, Vals [x, y] us → ∃ u v, us = [u, v] ∧ RelV x u ∧ RelV y v
  | _, _, _, .cons r (.cons q .nil) => ⟨_, _, rfl, r, q⟩
theorem Vals.zero : ∀ {us : List Value}, Vals [] us → us = []
  | _, .nil => rfl
theorem Vals.dropLast {xs : List V} {us : List Value} (h : Vals xs us) : Vals xs.dropLast us.dropLast := by
  induction h with
  | nil => exact .nil
  | cons r t ih =>
    cases t with
    | nil => exact .nil
    | cons q t' => exact .cons r ih
theorem Vals.rep {xs : List V} {us : List Value} (h : Vals xs us) : ∀ k : Nat, Vals (List.replicate k xs).flatten (List.replicate k us).flatten
  | 0 => .nil
  | k + 1 => by
    rw [List.replicate_succ, List.replicate_succ, List.flatten_cons, List.flatten_cons]
    exact Vals.append h (Vals.rep h k)
theorem foldl_rep (its : List Value) : ∀ (k : Nat) (acc : List Value),
    List.foldl (fun x1 x2 => x1 ++ x2) acc.toArray (List.replicate k its.toArray) = (acc ++ (List.replicate k its).flatten).toArray
  | 0, acc => by simp
  | k + 1, acc => by
    have e : acc.toArray ++ its.toArray = (acc ++ its).toArray := by simp
    have e2 : (acc ++ its) ++ (List.replicate k its).flatten = acc ++ (List.replicate (k + 1) its).flatten := by
      rw [List.replicate_succ, List.flatten_cons, List.append_assoc]
    rw [← e2, ← foldl_rep its k (acc ++ its), ← e, List.replicate_succ, List.foldl_cons]
section
variable {X : Cx} {pins : List (Addr × Obj)} {σ : St} {H : Hp} {s : Shared} {l b : Addr} {xs ys zs : List V}
theorem Inv.lset {its its' : List Value} {n : Nat} {f : Array Value → Array Value} {t' : Nat} (I : Inv X pins σ H s) (hH : H l = some (.lst xs))
    (e : s.heap.get? l = some { cls := .type "list", data := .seq its.toArray n }) (hf : f its.toArray = its'.toArray) (hv : Vals ys its') (hz : ys.length ≤ sizeLine) :
    Inv X pins σ (upd H l (.lst ys)) { s with heap := s.heap.update l (Obj.mapSeq f), toks := t' } := by
  have q := PySem.IsL.update e f
  rw [hf] at q
  refine I.write (x := l) (e := l) (by rw [hH]; exact trivial) (.inl rfl) (fun b' u hb hu => (Heap.get?_update_other s.heap (Obj.mapSeq f) (Ne.symm hb)).trans hu) ⟨_, q⟩ ?_
  exact ⟨hz, its', _, hv, q⟩
theorem Inv.lnew {its : List Value} {t' : Nat} (I : Inv X pins σ H s) (hv : Vals ys its) (hz : ys.length ≤ sizeLine) :
    Inv X pins σ (upd H s.heap.objs.size (.lst ys)) { s with heap := s.heap.push { cls := .type "list", data := .seq its.toArray }, toks := t' } :=
  I.laid (fun _ _ q => Heap.get?_push_of_some _ q) (Nat.le_refl _) ⟨hz, its, 0, hv, Heap.get?_push_size _ rfl⟩
theorem Inv.fresh (I : Inv X pins σ H s) : H s.heap.objs.size = none := I.hok.fresh (Nat.le_refl _)
theorem Inv.lstM (I : Inv X pins σ H s) (hH : H l = some (.lst xs)) : xs.length ≤ sizeLine ∧ ∃ (its : List Value) (n : Nat), Vals xs its ∧ xs.length = its.length ∧ s.heap.get? l = some { cls := .type "list", data := .seq its.toArray n } := by
  obtain ⟨z, its, n, r, e⟩ := I.hok l _ hH
  exact ⟨z, its, n, r, r.length, e⟩
end
section
variable {X : Cx}
def rAppend : V → List V → Hp → VK → Prop := fun x vs H Q => ∃ l xs y, x = .ref l ∧ vs = [y] ∧ H l = some (.lst xs) ∧ xs.length < sizeLine ∧ Q .non (upd H l (.lst (xs ++ [y])))
theorem mt_append : MtM X "list.append" rAppend := by
  intro pins s σ H x vs v us Q I rx rv h
  obtain ⟨l, xs, y, rfl, rfl, hH, hz, q⟩ := h
  cases rx
  obtain ⟨u, rfl, ru⟩ := rv.one
  obtain ⟨z, its, n, r, hl, e⟩ := I.lstM hH
  refine call_meets F.slot_list_append ⟨_, e, rfl⟩ F.entry_list_append (F.args_list_append_2 _ _) (PySem.list_append l its.toArray n u (by rw [List.size_toArray]; omega)) ⟨e, ?_⟩
  refine ⟨.non, _, I.lset (its' := its ++ [u]) hH e (by simp) (r.append (.cons ru .nil)) ?_, rfl, q⟩
  rw [List.length_append, List.length_singleton]
  omega
def rCat : R2 := fun x y H Q => ∃ l b xs zs, x = .ref l ∧ y = .ref b ∧ H l = some (.lst xs) ∧ H b = some (.lst zs) ∧ xs.length + zs.length ≤ sizeLine ∧ ∀ p, H p = none → Q (.ref p) (upd H p (.lst (xs ++ zs)))
theorem op_cat : OpR X (binaryOp .Add) rCat := by
  intro pins s σ H x y v u Q I rx ry h
  obtain ⟨l, b, xs, zs, rfl, rfl, hH, hB, hz, q⟩ := h
  cases rx
  cases ry
  obtain ⟨z, its, n, r, hl, e⟩ := I.lstM hH
  obtain ⟨z2, its2, n2, r2, hl2, e2⟩ := I.lstM hB
  refine PySem.P.add_list e e2 ?_ (by rw [List.size_toArray, List.size_toArray]; omega)
  have ea : its.toArray ++ its2.toArray = (its ++ its2).toArray := by simp
  rw [ea]
  exact ⟨.ref _, _, I.lnew (t' := s.toks) (r.append r2) (by rw [List.length_append]; omega), rfl, q _ I.fresh⟩
theorem len_rep {α : Type} (xs : List α) (k : Nat) : (List.replicate k xs).flatten.length = k * xs.length := by
  induction k with
  | zero => simp
  | succ k ih => rw [List.replicate_succ, List.flatten_cons, List.length_append, ih, Nat.succ_mul, Nat.add_comm]
end
section
variable {prog : Program} {w : World} {A : Around} {E : Value → Shared → Prop} {s : Shared}
end
section
variable {X : Cx}
end
end L2
namespace Att
open PySem PySem.W PySem.Calls PyProof.Rows
theorem ints_of_wellAll {P : Params} {h : Heap} : ∀ (ns : List Int) (vs : List Value), WellAll P h vs (ns.map WData.int) → IntsAre vs ns := by
  intro ns
  induction ns with
  | nil =>
    intro vs w
    rw [List.map_nil] at w
    cases w
    exact .nil
  | cons n ns ih =>
    intro vs w
    rw [List.map_cons] at w
    cases w with
    | cons a b =>
      cases a
      exact .cons _ _ (ih _ b)
theorem script_of {l : OpenLaw} {n : Nat} (hn : l.most = some n) {P : Params} {h : Heap} {args : List WData} {vals : List Value}
    (hpre : l.row.toRowW.claim.pre args = true) (hwl : WellAll P h vals args) :
    ∃ a vs ns, vals = [Value.ref a] ∧ args = [WData.list (ns.map WData.int)] ∧ h.get? a = some { cls := .type "list", data := .seq vs.toArray } ∧ IntsAre vs ns ∧ ns.length ≤ n := by
  have hsh : WShape.hasAll [] args [.list .int] = true := (pre_splitW hpre).1
  have hc : l.pre.holds [] { args := args } = true := (pre_splitW hpre).2
  obtain ⟨d, r, rfl, h1, h2⟩ := hasAllW_cons hsh
  obtain rfl := hasAllW_nil h2
  obtain ⟨xs, rfl, h3⟩ := hasW_list h1
  obtain ⟨ns, rfl⟩ := items_int h3
  have hlen : ns.length ≤ n := by
    unfold OpenLaw.pre at hc
    have h4 : (WTm.not (.lt (.lit (.int (n : Int))) (.len (.arg 0)))).holds [] { args := [.list (ns.map .int)] } = true := by
      have h4 := (holds_andW hc).1
      rw [hn] at h4
      exact h4
    have h5 := condW_of h4 (w_not (w_lt w_lit (w_len_list (w_arg rfl))))
    rw [List.length_map] at h5
    refine Nat.le_of_not_lt fun q => ?_
    have q' : (n : Int) < ((ns.length : Nat) : Int) := by omega
    first
      | (rw [decide_eq_true q'] at h5; exact absurd h5 (by decide))
      | (simp at h5; omega)
  cases hwl with
  | cons w1 w2 =>
    cases w2
    cases w1 with
    | list ho hall => exact ⟨_, _, ns, rfl, rfl, ho, ints_of_wellAll ns _ hall, hlen⟩
theorem post_true (l : OpenLaw) (args : List WData) : l.row.toRowW.claim.post args (.bool true) args = true :=
  postW_of (r := l.row.toRowW) (X := (true == true))
    (show WShape.has [] (.bool true) .bool = true by first | rfl | decide | simp [WShape.has, WShape.arms, WShape.armsAll])
    (show (WTm.eq .res (.lit (.bool true))).value [] { args := args, res := some (.bool true), after := args } = some (.bool (true == true)) from w_eq_bool (w_res rfl) w_lit) rfl
theorem attach_call {l : OpenLaw} {n : Nat} {q : Program} {loose : List Str} {XP : (Str → Option Value) → Heap → Prop} {YP : World → Heap → Prop} {d : DefRec}
    (hn : l.most = some n) (hdf : d.params.defaults = [])
    (call : ∀ (w : World) (s₀ s₁ : Shared) (mg mb : Str → Option Value) (fa : Addr) (o : Obj) (pm cd doc : Value) (a : Addr) (vs : List Value) (ns : List Int),
      Ground q loose [] XP w s₀ mg mb s₁.heap → YP w s₁.heap →
      s₁.heap.get? fa = some o → o.data = .func (docDef d.name d.params d.body d.scope pm cd doc) → s₁.heap.CodeRec cd d.name → mg d.name = some (.ref fa) →
      s₁.heap.get? a = some { cls := .type "list", data := .seq vs.toArray } → IntsAre vs ns → ns.length ≤ n → s₁.gens = #[] →
      codeAny (model l.prog w) callerA (.call (.ref fa) ⟨[.ref a], []⟩) (fun r s' => r = .ok (.ret (.bool true)) ∧ OldK s₁.heap s'.heap ∧ s'.os = s₁.os ∧ AllBare s'.gens) s₁) :
    WalkO q loose XP YP l.row.toRowW d [] (fun f vs => PySem.call f vs) := by
  intro w s₀ s₁ mg mb G Y fa o pm cd doc dV kV ho hd hcd hD hmg hg args vals as hpre hlay hrd hwl hlo
  obtain rfl : dV = .none := Dflts.none hD hdf
  obtain rfl : kV = .none := Dflts.noKw hD
  obtain ⟨a, vs, ns, rfl, rfl, hobj, hints, hlen⟩ := script_of hn hpre hwl
  refine enter_call (codeAny_mono (call w s₀ s₁ mg mb fa o pm cd doc a vs ns G Y ho (fd_plain hd) hcd hmg hobj hints hlen hg) fun r s' hq => ?_)
  obtain ⟨rfl, h2, h3, h4⟩ := hq
  exact ⟨.inl ⟨.bool true, .bool true, [], rfl, fun _ => rfl, .bool true, post_true l _, fun _ => ⟨List.Pairwise.nil, fun _ hm => (nomatch hm)⟩⟩, h2, h3, h4⟩
section
variable {prog : Program} {w : World} {A : Around} {E : Value → Shared → Prop} {s : Shared} {K : Frag}
end
end Att
namespace L2
open PySem PySem.Spec PyProof.Rows
theorem vals_ints : ∀ {vs : List Value} {ns : List Int}, IntsAre vs ns → Vals (ns.map V.int) vs
  | _, _, .nil => .nil
  | _, _, .cons n t h => .cons ⟨t, rfl⟩ (vals_ints h)
def Only (H : Hp) : Prop := ∀ b, H b = none ∨ ∃ o xs, H b = some (.frz o (.lst xs))
theorem law_call {P : Program} {w : World} {K : PySem.W.Frag} {mg mb : Str → Option Value} {CX : CXT} {k : Nat} {fa a : Addr} {fd : FuncData} {x : Str} {sp : Sp} {s₁ : Shared} {vs : List Value} {ns : List Int}
    (KX : K.In s₁.heap) (hns : s₁.heap.Ns mainGlobals mg) (hb : s₁.heap.Ns builtinsNs mb) (hbb : ∀ x : Str, x ≠ "__name__" → mb x = bootBuiltins x) (hlim : s₁.heap.NoLimit) (hg : s₁.gens = #[])
    (ha : s₁.heap.get? a = some { cls := .type "list", data := .seq vs.toArray }) (hi : IntsAre vs ns) (hl : ns.length ≤ sizeLine) (hr : Room k callerA)
    (F : ∀ base : Heap, K.In base → base.Ns mainGlobals mg → FnOk P w K mg base CX k fa fd [x] sp) (hbind : ∀ (s : Shared) (u : Value), BindsTo s fd ⟨[u], []⟩ [(x, u)])
    (hsp : ∀ H : Hp, Only H → SqL K H a (ns.map V.int) → sp [.ref a] H (fun v _ => v = .bl true) fun _ _ _ => False)
    (hCX : ∀ H e s', CX [] H s₁ (fun _ _ _ => False) e s' → False) :
    codeAny (model P w) callerA (.call (.ref fa) ⟨[.ref a], []⟩) (fun r s' => r = .ok (.ret (.bool true)) ∧ OldK s₁.heap s'.heap ∧ s'.os = s₁.os ∧ AllBare s'.gens) s₁ := by
  have rv := vals_ints hi
  have lenV := hi.length
  -- from an abstract heap in which nothing but the script may be tracked
  have core : ∀ H : Hp, Only H → SqL K H a (ns.map V.int) → HOk P w H s₁.heap → (∀ b, H b ≠ none → b = a) → (H a ≠ none → K.lookup a = none) →
      codeAny (model P w) callerA (.call (.ref fa) ⟨[.ref a], []⟩) (fun r s' => r = .ok (.ret (.bool true)) ∧ OldK s₁.heap s'.heap ∧ s'.os = s₁.os ∧ AllBare s'.gens) s₁ := by
    intro H hO hS hok hA hK
    have base_of : ∀ {b : Addr} {o : Obj}, s₁.heap.get? b = some o → H b = none → (hidT s₁.heap H).get? b = some o := fun e n => hidT_get e n
    have noA : ∀ {b : Addr} {o : Obj} {es : Array DictEntry} {ep : Nat}, s₁.heap.get? b = some o → o.data = .dict es ep → H b = none := fun {b o es ep} e d => by
      cases q : H b with
      | none => rfl
      | some u =>
        have e' : b = a := hA b (by rw [q]; simp)
        subst e'
        rw [ha] at e; cases e
        have d' : Data.seq vs.toArray _ = Data.dict es ep := d
        cases d'
    have nsK : ∀ {b : Addr} {m : Str → Option Value}, s₁.heap.Ns b m → (hidT s₁.heap H).Ns b m := fun {b m} ⟨o, es, ep, e, d, r⟩ => ⟨o, es, ep, base_of e (noA e d), d, r⟩
    have hKb : K.In (hidT s₁.heap H) := fun b o e => base_of (KX b o e) (by
      cases q : H b with
      | none => rfl
      | some u =>
        have e' : b = a := hA b (by rw [q]; simp)
        subst e'
        rw [hK (by rw [q]; simp)] at e; cases e)
    have hM : Mod K mg (hidT s₁.heap H) := ⟨hKb, nsK hns, ⟨mb, nsK hb, hbb⟩, let ⟨mc, h1, h2⟩ := hlim; ⟨mc, nsK h1, h2⟩⟩
    have e0 : Env0 P w K mg (hidT s₁.heap H) callerA [] s₁ H := ⟨rfl, hM, fun b o e => of_hidT e, Nat.le_of_eq (hidT_size _ _), trivial, fun b hb => absurd (show b ∈ ([] : List Addr) from hb) (by simp), hok, .of_eq hg⟩
    refine codeAny_mono ((F _ hKb (nsK hns)).run callerA [] s₁ H ⟨[.ref a], []⟩ [.ref a] [.ref a] _ _ hr e0 (hbind s₁ (.ref a)) (.cons rfl .nil) (hsp H hO hS)) fun r s' h => ?_
    cases r with
    | error e => exact (hCX H e s' h).elim
    | ok fl =>
      cases fl with
      | next => exact False.elim h
      | brk => exact False.elim h
      | cont => exact False.elim h
      | ret u =>
        obtain ⟨v, H', os, bare, un, hok', r', q⟩ := h
        have q' : v = .bl true := q
        subst q'
        obtain rfl : u = Value.bool true := r'
        refine ⟨rfl, OldK.of_keep fun b o e => ?_, os, bare⟩
        cases q : H b with
        | none => exact un.keep b o e q (by intro z; exact absurd (show b ∈ ([] : List Addr) from z) (by simp)) (by simp)
        | some u =>
          rcases hO b with z | ⟨ob, xs, z⟩
          · rw [q] at z; cases z
          · have z2 := un.frzs b ob _ z
            obtain ⟨e1, _⟩ := hok b _ z
            obtain ⟨e2, _⟩ := hok' b _ z2
            rw [e] at e1; cases e1
            exact e2
  cases hk : K.lookup a with
  | some o =>
    -- the script is one of the module's own objects
    have e := KX a o hk
    rw [ha] at e
    cases e
    refine core (fun _ => none) (fun _ => .inl rfl) (.inr ⟨_, vs.toArray, _, hk, rfl, rfl, rfl, by rw [List.size_toArray, lenV]; exact hl, by simpa using rv⟩) (fun b u z => by have z' : (none : Option HO) = some u := z; cases z') (fun b z => absurd rfl z) fun z => absurd rfl z
  | none =>
    refine core (fun b => if b = a then some (.frz { cls := .type "list", data := .seq vs.toArray } (.lst (ns.map V.int))) else none) (fun b => ?_) (.inl (.inr ⟨{ cls := .type "list", data := .seq vs.toArray }, if_pos rfl⟩)) (fun b u z => ?_) (fun b z => ?_) fun _ => hk
    · by_cases hb : b = a
      · exact .inr ⟨_, _, if_pos hb⟩
      · exact .inl (if_neg hb)
    · by_cases hb : b = a
      · have z' := (if_pos hb).symm.trans z
        cases z'
        subst hb
        exact ⟨ha, by rw [List.length_map]; exact hl, vs, _, rv, ha⟩
      · have z' := (if_neg hb).symm.trans z
        cases z'
    · by_cases hb : b = a
      · exact hb
      · exact absurd (if_neg hb) z
end L2
namespace L2
open PySem PySem.Spec PyProof.Rows
abbrev KOf {K : PySem.W.Frag} {h : Heap} (_ : K.In h) : PySem.W.Frag := K
theorem walk_of {l : PySem.W.OpenLaw} {n k : Nat} {q : Program} {loose : List Str} {XP : (Str → Option Value) → Heap → Prop} {YP : World → Heap → Prop} {d : DefRec} {K : Params → PySem.W.Frag} {CX : World → CXT} {sp : World → Sp} {x : Str}
    (hn : l.most = some n) (hn2 : n ≤ sizeLine) (hdf : d.params.defaults = []) (hr : Room k callerA)
    (hY : ∀ (w : World) (h : Heap), YP w h → (K w.params).In h)
    (F : ∀ (w : World) (mg : Str → Option Value) (fa : Addr) (h : Heap), (K w.params).In h → h.Ns mainGlobals mg → mg d.name = some (.ref fa) →
      ∃ fd : FuncData, (∀ (s : Shared) (u : Value), BindsTo s fd ⟨[u], []⟩ [(x, u)]) ∧
        ∀ base : Heap, (K w.params).In base → base.Ns mainGlobals mg → FnOk l.prog w (K w.params) mg base (CX w) k fa fd [x] (sp w))
    (hsp : ∀ (w : World) (H : Hp) (a : Addr) (ns : List Int), ns.length ≤ n → Only H → SqL (K w.params) H a (ns.map V.int) → sp w [.ref a] H (fun v _ => v = .bl true) fun _ _ _ => False)
    (hCX : ∀ (w : World) (H : Hp) (s : Shared) (e : Value) (s' : Shared), CX w [] H s (fun _ _ _ => False) e s' → False) :
    PySem.W.WalkO q loose XP YP l.row.toRowW d [] (fun f vs => PySem.call f vs) := by
  refine Att.attach_call hn hdf fun w s₀ s₁ mg mb fa o pm cd doc a vs ns G Y ho hd hcd hmg hobj hints hlen hg => ?_
  have KX := hY w _ Y
  obtain ⟨fd, hb, hF⟩ := F w mg fa _ KX G.T.g hmg
  exact law_call KX G.T.g G.T.b G.T.builtins G.T.nolimit hg hobj hints (Nat.le_trans hlen hn2) hr hF hb (fun H hO hS => hsp w H a ns hlen hO hS) fun H e s' => hCX w H s₁ e s'
end L2
namespace L2
open PySem PySem.Spec PyProof.Rows
def defArgs (s : Stmt) : Arguments := match s with
  | .FunctionDef _ a _ _ _ _ _ _ _ _ => a
  | _ => { posonlyargs := [], args := [], vararg := none, kwonlyargs := [], kw_defaults := [], kwarg := none, defaults := [] }
def defBody (s : Stmt) : List Stmt := match s with
  | .FunctionDef _ _ b _ _ _ _ _ _ _ => b
  | _ => []
def defScope (s : Stmt) : Scope := match s with
  | .FunctionDef _ _ _ _ _ _ sc _ _ _ => sc
  | _ => { kind := .function, names := [], isGenerator := false, isCoroutine := false }
abbrev CX0 : CXT := fun _ _ _ _ _ _ => False
abbrev E0 : XK := fun _ _ _ => False
theorem pass0 {X : Cx} : Passes CX0 X E0 := fun _ _ _ _ _ _ _ h => h.elim
structure Fun (K : PySem.W.Frag) (x qual : Str) (st : Stmt) (f : Addr) (fd : FuncData) : Prop where
  ex : ∃ (oc : Value) (od : Option Addr) (kV doc pm : Value) (an : Option Addr) (cdv ct : Value) (osl : Array (Option Value)),
    fd = PySem.W.fnOf x qual (defArgs st) (defBody st) (defScope st) .none kV doc pm an cdv ct ∧ K.lookup f = some ⟨oc, od, .func fd, osl⟩ ∧ PySem.W.codeIn K cdv qual = true
  kp : PySem.W.keepIn K (.ref f) = true
section
variable {P : Program} {w : World} {K : PySem.W.Frag} {mg : Str → Option Value} {base : Heap}
theorem Fun.ok {x qual : Str} {st : Stmt} {f : Addr} {fd : FuncData} {N ps : List Str} {k : Nat} {sp : Sp} (F : Fun K x qual st f fd) (S : FnScope N ps (defScope st)) (len : ∀ vs H Q E, sp vs H Q E → vs.length = ps.length)
    (hbody : ∀ (cdv : Value) (A : Around) (outer : List Env) (s : Shared) (H : Hp) (vs : List V) (Q : VK) (E : XK), Room k (A.deeper (envOfC qual (defScope st) s.heap.objs.size f cdv)) → sp vs H Q E →
      ∃ t, PSs (cxOf CX0 P w K mg base N qual (defScope st) f cdv A outer s H E).nox (defBody st) t ∧ t { nx := fun _ H' => Q .non H', rt := Q } (start N vs) H) : FnOk P w K mg base CX0 (k + 1) f fd ps sp := by
  obtain ⟨oc, od, kV, doc, pm, an, cdv, ct, osl, rfl, lk, hcd⟩ := F.ex
  refine fn_of lk hcd S len fun A outer s H vs Q E hr hsp => ?_
  obtain ⟨t, h, q⟩ := hbody cdv A outer s H vs Q E hr hsp
  exact ⟨t, h.nox, q⟩
theorem Fun.binds {x qual : Str} {st : Stmt} {f : Addr} {fd : FuncData} {ps : List Str} (F : Fun K x qual st f fd)
    (h : ∀ (kV doc pm : Value) (an : Option Addr) (cdv ct : Value) (us : List Value), us.length = ps.length → bindArgs (PySem.W.fnOf x qual (defArgs st) (defBody st) (defScope st) .none kV doc pm an cdv ct) ⟨us, []⟩ = pure (ps.zip us)) : Binds K fd ps [] := by
  obtain ⟨oc, od, kV, doc, pm, an, cdv, ct, osl, rfl, lk, hcd⟩ := F.ex
  exact .all (h kV doc pm an cdv ct)
theorem fun_mk {x qual : Str} {st : Stmt} {f : Addr} {oc : Value} {od an : Option Addr} {osl : Array (Option Value)} {kV doc pm cdv ct : Value} (l : K.lookup f = some ⟨oc, od, .func (PySem.W.fnOf x qual (defArgs st) (defBody st) (defScope st) .none kV doc pm an cdv ct), osl⟩)
    (c : PySem.W.codeIn K cdv qual = true) (k : PySem.W.keepIn K (.ref f) = true) : Fun K x qual st f (PySem.W.fnOf x qual (defArgs st) (defBody st) (defScope st) .none kV doc pm an cdv ct) := ⟨⟨oc, od, kV, doc, pm, an, cdv, ct, osl, rfl, l, c⟩, k⟩
end
theorem small1000 {n : Nat} (h : n ≤ 1000) : n < sizeLine := Nat.lt_of_le_of_lt h (by decide)
section
variable {X : Cx}
theorem pv (i : Nat) {x : Str} {pos : Pos} (hN : X.N[i]? = some x := by rfl) (hv : Vis X.env.scope x := by first | exact Or.inl rfl | exact Or.inr (Or.inl rfl) | exact Or.inr (Or.inr rfl)) (hd : (x == ("__debug__" : Str)) = false := by decide)
    (hcd : (x == ("__classdict__" : Str)) = false := by decide) : PE X (.Name x pos) (tVar i) := pe_var hN hv hd hcd
end
theorem iteF {A B : Prop} (h : B) : if false = true then A else B := by
  rw [if_neg Bool.false_ne_true]
  exact h
theorem iteT {A B : Prop} (h : A) : if true = true then A else B := by
  rw [if_pos rfl]
  exact h
def Same (H H' : Hp) : Prop := ∀ b o, H b = some o → H' b = some o
theorem Same.refl (H : Hp) : Same H H := fun _ _ h => h
theorem Same.trans {H H1 H2 : Hp} (a : Same H H1) (b : Same H1 H2) : Same H H2 := fun c o h => b c o (a c o h)
theorem Same.free {H H' : Hp} (e : Same H H') {l : Addr} (h : H' l = Option.none) : H l = Option.none := by
  cases q : H l with
  | none => rfl
  | some o =>
    rw [e l o q] at h
    cases h
theorem Same.seq {K : PySem.W.Frag} {H H' : Hp} {a : Addr} {xs : List V} (e : Same H H') (h : SqL K H a xs) : SqL K H' a xs := by
  rcases h with (h | ⟨o, h⟩) | h
  · exact .inl (.inl (e _ _ h))
  · exact .inl (.inr ⟨o, e _ _ h⟩)
  · exact .inr h
end L2
set_option Elab.async false
set_option linter.all false
set_option maxRecDepth 100000
set_option maxHeartbeats 4000000
namespace L2
open PySem PySem.Spec PyProof.Rows
def Bits (n : Nat) (x : Int) : Prop := x.natAbs < 2 ^ n
theorem Bits.mono {n m : Nat} {x : Int} (h : Bits n x) (l : n ≤ m) : Bits m x := Nat.lt_of_lt_of_le h (Nat.pow_le_pow_right (by decide) l)
theorem Bits.add {n : Nat} {x y : Int} (h : Bits n x) (k : Bits n y) : Bits (n + 1) (x + y) := by
  unfold Bits at *; rw [Nat.pow_succ]; omega
theorem Bits.sub {n : Nat} {x y : Int} (h : Bits n x) (k : Bits n y) : Bits (n + 1) (x - y) := by
  unfold Bits at *; rw [Nat.pow_succ]; omega
theorem Bits.mul {n m : Nat} {x y : Int} (h : Bits n x) (k : Bits m y) : Bits (n + m) (x * y) := by
  unfold Bits at *
  rw [Int.natAbs_mul, Nat.pow_add]
  exact Nat.mul_lt_mul'' h k
theorem Bits.log2 {n : Nat} {x : Int} (h : Bits n x) (hn : 0 < n) : x.natAbs.log2 < n := by
  by_cases z : x.natAbs = 0
  · rw [z]; exact Nat.lt_of_le_of_lt (by decide) hn
  · exact (Nat.log2_lt z).mpr h
theorem Bits.intBits {n : Nat} {x : Int} (h : Bits n x) : Builtin.Int.intBits x ≤ n := by
  unfold Builtin.Int.intBits
  by_cases z : (x == 0) = true
  · rw [if_pos z]; exact Nat.zero_le _
  · rw [if_neg z]
    have z' : x.natAbs ≠ 0 := by
      intro e; apply z; have : x = 0 := Int.natAbs_eq_zero.mp e; rw [this]; rfl
    exact (Nat.log2_lt z').mpr h
def CMulB (i j : Int) : Prop := ∃ n, n ≤ 1048576 ∧ Bits n i ∧ Bits n j
theorem CMulB.ok {i j : Int} (h : CMulB i j) : IntMulOk i j := by
  obtain ⟨n, hn, h1, h2⟩ := h
  exact .of_bits (Nat.le_trans h1.intBits (Nat.le_trans hn (by decide))) (Nat.le_trans h2.intBits (Nat.le_trans hn (by decide)))
section
variable {X : Cx}
theorem op_mulB : OpR X (binaryOp .Mult) (rI CMulB fun i j => .int (i * j)) := opI fun _ _ _ _ _ _ _ hc q => mul_int q hc.ok
end
section
variable {X : Cx} {pins : List (Addr × Obj)} {σ : St} {H : Hp} {s : Shared} {h' : Heap} {ch : List Addr}
theorem Inv.turnedL0 {t' : Nat} (I : Inv X pins σ H s) (k : ∀ b o, b ∉ ch → s.heap.get? b = some o → h'.get? b = some o) (hf : ∀ b ∈ ch, FpOk X pins H b) :
    Inv X pins σ H { s with heap := h', toks := t' } := by
  have nit : ∀ b u, H b = some u → b ∉ ch := fun b u e z => by rw [(hf b z).1] at e; cases e
  refine I.step (g' := s.gens) (d' := s.drawn) (ch := ch) (fun b hb => ⟨(hf b hb).2.2.2.1, (hf b hb).2.1, (hf b hb).2.2.2.2.1, (hf b hb).2.2.2.2.2⟩) (fun b o _ _ hc e _ => k b o hc e) (fun b o _ _ hc e _ => ⟨o.slots, k b o hc e⟩) (fun _ _ _ _ n => n)
    (fun b o hc e => ⟨o, k b o hc e⟩) (fun _ _ e => e) (fun _ _ _ e => e) (fun b ps e => ⟨#[], by rw [e]; simp⟩) (fun m hm => ?_) (fun b u e => ?_) I.bare
  · obtain ⟨o, es, ep, ho, r⟩ := hm
    exact ⟨o, es, ep, k _ o (fun z => (hf _ z).2.1 rfl) ho, r⟩
  · refine (I.hok b u e).stay (fun c v hc q => k c v ?_ q) (fun _ q => q) fun _ _ q => q
    rcases hc with z | z
    · rw [z]; exact nit b u e
    · exact nit c _ z
theorem Inv.turnedNew {t' : Nat} {T : Addr} {o : HO} (I : Inv X pins σ H s) (k : ∀ b o, b ∉ ch → s.heap.get? b = some o → h'.get? b = some o) (hf : ∀ b ∈ ch, FpOk X pins H b)
    (hT : s.heap.objs.size ≤ T) (new : ObjOk X.prog X.w (upd H T o) h' T o) :
    Inv X pins σ (upd H T o) { s with heap := h', toks := t' } := by
  have hn : H T = none := I.hok.fresh hT
  have nT : ∀ b ob, s.heap.get? b = some ob → b ≠ T := fun b ob e => Nat.ne_of_lt (Nat.lt_of_lt_of_le (Heap.lt_size e) hT)
  have nit : ∀ b u, H b = some u → b ∉ ch := fun b u e z => by rw [(hf b z).1] at e; cases e
  refine I.step (g' := s.gens) (d' := s.drawn) (ch := ch) (fun b hb => ⟨(hf b hb).2.2.2.1, (hf b hb).2.1, (hf b hb).2.2.2.2.1, (hf b hb).2.2.2.2.2⟩) (fun b o _ _ hc e _ => k b o hc e) (fun b o _ _ hc e _ => ⟨o.slots, k b o hc e⟩)
    (fun b ob _ e n => by rw [upd_ne (nT b ob e)]; exact n) (fun b o hc e => ⟨o, k b o hc e⟩) (fun b xs e => by rw [upd_ne (ne_of_none e hn)]; exact e) (fun b ob u e => by rw [upd_ne (ne_of_none e hn)]; exact e)
    (fun b ps e => ⟨#[], by rw [upd_ne (ne_of_none e hn), e]; simp⟩) (fun m hm => ?_) (fun b u e => ?_) I.bare
  · obtain ⟨ob, es, ep, ho, r⟩ := hm
    exact ⟨ob, es, ep, k _ ob (fun z => (hf _ z).2.1 rfl) ho, r⟩
  · by_cases hb : b = T
    · subst hb
      rw [upd_same] at e
      cases e
      exact new
    · rw [upd_ne hb] at e
      refine (I.hok b u e).stay (fun c v hc q => k c v ?_ q) (fun c q => by rw [upd_ne (ne_of_none q hn)]; exact q) fun c xs q => by rw [upd_ne (ne_of_none q hn)]; exact q
      rcases hc with z | z
      · rw [z]; exact nit b u e
      · exact nit c _ z
end
def SqB (K : PySem.W.Frag) (b : Bool) (H : Hp) (a : Addr) (xs : List V) : Prop := bif b then SqT K H a xs else SqL K H a xs
section
variable {X : Cx} {pins : List (Addr × Obj)} {σ : St} {H : Hp} {s : Shared} {a c : Addr} {xs ys : List V} {b : Bool}
theorem Inv.awayK (I : Inv X pins σ H s) (f : FpOk X pins H c) {o : Obj} (h : X.K.lookup a = some o) : a ≠ c := by
  intro z
  have h1 := I.mod.kin a o h
  have h2 := (I.ok.bs a o h1).1
  rcases f.2.2.2.1 with q | q
  · exact I.ok.noex a o h1 (by rw [z]; exact q)
  · rw [← z] at q; exact absurd (Nat.lt_of_lt_of_le (Heap.lt_size h2) q) (Nat.lt_irrefl _)
theorem Inv.away (I : Inv X pins σ H s) (f : FpOk X pins H c) (h : SqB X.K b H a xs) : a ≠ c := by
  have no : ∀ {u : HO}, H a = some u → a ≠ c := fun e z => by rw [z, f.1] at e; cases e
  cases b
  · rcases (show SqL X.K H a xs from h) with (e | ⟨o, e⟩) | ⟨o, its, n, e, _⟩
    · exact no e
    · exact no e
    · exact I.awayK f e
  · rcases (show SqT X.K H a xs from h) with (e | ⟨o, e⟩) | ⟨o, its, n, e, _⟩
    · exact no e
    · exact no e
    · exact I.awayK f e
end
def Ite (K : PySem.W.Frag) (a : Addr) : It :=
  ⟨fun i H => ∃ xs x, SqL K H a xs ∧ xs[i]? = some x,
   fun i H x H' => ∃ T v, x = .ref T ∧ H T = none ∧ H' = upd H T (.tup [.int (i : Nat), v]) ∧ ∀ xs, SqL K H a xs → xs[i]? = some v,
   fun i H => ∃ xs, SqL K H a xs ∧ xs.length ≤ i⟩
theorem turn_enum {P : Program} {w : World} {K : PySem.W.Frag} {es : List Expr} {k : Nat} {pos : Pos} (a e it : Addr) (hei : e ≠ it) :
    Turn P w K (.Tuple es k pos) (Ite K a) [e, it] e (fun i h => (∃ old, IsEnum h e it i old) ∧ h.IsListIter it a i) where
  mem := by simp
  obj := fun i h st b hb => by
    obtain ⟨⟨old, h1⟩, o, h2, c, d⟩ := st
    have hb' : b = e ∨ b = it := by simpa using hb
    rcases hb' with z | z
    · subst z
      exact ⟨_, h1, fun v z => by
        have z' : Data.fields _ = Data.cell v := z
        cases z'⟩
    · subst z; exact ⟨o, h2, fun v z => by rw [d] at z; cases z⟩
  keep := fun i h h' st kk => by
    obtain ⟨⟨old, h1⟩, st2⟩ := st
    exact ⟨⟨old, kk e (by simp) _ h1⟩, st2.at fun o q => kk it (by simp) o q⟩
  item := by
    intro X hP hw hK hc i pins s σ H E I hf st hg
    subst hP hw hK
    obtain ⟨xs, x, hq, hx⟩ := hg
    obtain ⟨its, rv, p, hz⟩ := I.list hq
    obtain ⟨u, hu, ru⟩ := rv.get hx
    obtain ⟨⟨old, he⟩, hit⟩ := st
    have hne : a ≠ it := I.away (b := false) (hf it (by simp)) hq
    have hea : e ≠ a := fun z => I.away (b := false) (hf e (by simp)) hq z.symm
    have D := Draws.list (prog := X.prog) (w := X.w) (A := X.A.in1) (I.ok.hd hc) it a hne its.toArray
    have hlt : i < its.toArray.size := by
      have := (List.getElem?_eq_some_iff.mp hu).1
      simpa using this
    refine wpAny_pyNext_enum_itemD D he ⟨hit, p.isList⟩ hlt hei (by simp [hei, hea]) fun y h1 tk hy ho hst ht hsz hk => ?_
    have ey : y = u := by
      have h2 : its[i]? = some y := by simpa using hy
      rw [hu] at h2; cases h2; rfl
    subst ey
    refine ⟨_, rfl, ?_⟩
    have hTe : s.heap.objs.size ≠ e := Nat.ne_of_gt (Heap.lt_size he)
    refine wpAny_letOwnedTupleGo_enum ho fun h2 he2 hs2 => ?_
    have hs2' : Heap.SameBut e h1 h2 := hs2
    have kk : ∀ b o, b ∉ [e, it] → s.heap.get? b = some o → h2.get? b = some o := fun b o hb q => by
      have hb' : b ≠ e ∧ b ≠ it := by simpa using hb
      exact (hs2'.2 b hb'.1).trans (hk b o hb'.1 hb'.2 q)
    have hT2 : h2.get? s.heap.objs.size = some { cls := .type "tuple", data := .seq #[.int i tk, y] } := (hs2'.2 _ hTe).trans ht
    have new : ObjOk X.prog X.w (upd H s.heap.objs.size (.tup [.int (i : Nat), x])) h2 s.heap.objs.size (.tup [.int (i : Nat), x]) :=
      ⟨by show 2 ≤ sizeLine; decide, [.int i tk, y], .cons ⟨tk, rfl⟩ (.cons ru .nil), ⟨_, hT2, rfl, _, rfl⟩⟩
    have hnT : H s.heap.objs.size = none := I.hok.fresh (Nat.le_refl _)
    refine ⟨.ref s.heap.objs.size, upd H s.heap.objs.size (.tup [.int (i : Nat), x]), I.turnedNew kk hf (Nat.le_refl _) new, rfl, ⟨_, x, rfl, hnT, rfl, fun ys hy' => by rw [I.list_inj hy' hq]; exact hx⟩,
      ⟨⟨_, by simpa using he2⟩, hst.1.at fun o q => (hs2'.2 it (Ne.symm hei)).trans q⟩, fun b hb => ?_⟩
    have hne2 : b ≠ s.heap.objs.size := by
      have hb' : b = e ∨ b = it := by simpa using hb
      rcases hb' with z | z
      · rw [z]; exact Ne.symm hTe
      · obtain ⟨o, q, _⟩ := hit
        rw [z]; exact Nat.ne_of_lt (Heap.lt_size q)
    rw [upd_ne hne2]
    exact (hf b hb).1
  done := by
    intro X hP hw hK hc i pins s σ H E I hf st hg
    subst hP hw hK
    obtain ⟨xs, hq, hx⟩ := hg
    obtain ⟨its, rv, p, hz⟩ := I.list hq
    obtain ⟨⟨old, he⟩, hit⟩ := st
    have hl := rv.length
    -- at the end the iterator yields no more
    have hT : s.TypeIs (.ref e) "enumerate" := ⟨_, he, rfl⟩
    unfold pyNext
    refine wpAny_bind (wpAny_attempt (wpAny_callSpecial?_slot (name := Str.ofString "__next__") hT F.slot_enumerate_next
      (wpAny_call_entry F.slot_enumerate_next hT F.entry_enumerate_next ?_ (F.args_enumerate_next_1 _))))
    show wpAny _ _ (field (.ref e) 2 >>= _) _ _ _
    refine wpAny_bind (wpAny_field he rfl (x := .ref it) rfl ?_)
    refine wpAny_bind (wpAny_nextOf_list_end (A := X.A.in1) (I.ok.hd hc) hit p.isList (by simp; omega) fun h1 ex hx1 hx2 => ?_)
    obtain ⟨o, ho, hcc⟩ := hx2
    refine wpAny_bind (wpAny_isInstance (T := "StopIteration") (b := true) ⟨o, ho, hcc⟩ isSubtype_stop ?_)
    refine wpAny_pure ⟨rfl, ?_⟩
    obtain ⟨f0, f1, f2, f3, f4, f5⟩ := hf it (by simp)
    exact I.turned (t' := s.toks) (fun b o hb q => hx1 b o hb q) f0 f1 f3 f4 f5
  self := fun _ _ _ _ _ st h => by
    obtain ⟨⟨old, he⟩, _⟩ := st
    exact wpAny_pyIter_enum he h
section
variable {X : Cx} {es : List Expr} {k : Nat} {tpos : Pos}
def iEnum (K : PySem.W.Frag) (ta : TA) : TI := fun σ H R => ta σ H fun vs H1 => ∃ a, vs = [.ref a] ∧ (∃ xs, SqL K H1 a xs) ∧ R (Ite K a) H1
theorem pi_enum {e : Expr} {ta : TA} {p pos : Pos} (hg : Gl X "enumerate") (hm : X.mg "enumerate" = none) (ha : PA X [e] ta) (hs : starEach [e] X.env = [(false, eval e X.env)] := by rfl) :
    PI X (.Tuple es k tpos) (.Call (.Name "enumerate" p) [e] [] pos) (iEnum X.K ta) := by
  intro pins s σ H R I h
  refine Call_ (ld_blt I hg hm (u := .type "enumerate") (by rfl) (PyProof.Rows.callWith_type1 (thn (ha pos pins s σ H _ I h) fun us s1 ⟨vs, H1, I1, r1, q1⟩ => ?_) hs rfl))
  obtain ⟨a, rfl, ⟨xs, hq⟩, q⟩ := q1
  obtain ⟨u, rfl, r⟩ := vals1 r1
  obtain rfl : u = Value.ref a := r
  obtain ⟨its, rv, p, hz⟩ := I1.list hq
  refine call_enumerate_list p.isList fun h1 h2 h3 h4 h5 => ?_
  refine wpAny_pyIter_enum h2 ?_
  have I2 : Inv X pins σ H1 { s1 with heap := h1 } := I1.kept (t' := s1.toks) h5
  refine ⟨s1.heap.objs.size + 1, [s1.heap.objs.size + 1, s1.heap.objs.size], _, _, H1, rfl, I2, turn_enum a _ _ (Nat.succ_ne_self _), ⟨⟨_, h2⟩, h3⟩, fun b hb => ?_, q⟩
  have hb' : b = s1.heap.objs.size + 1 ∨ b = s1.heap.objs.size := by simpa using hb
  have hle : s1.heap.objs.size ≤ b := by rcases hb' with z | z <;> rw [z] <;> first | exact Nat.le_add_right _ _ | exact Nat.le_refl _
  exact I1.fpOk hle (I1.hok.fresh hle)
end
theorem for_enum {K : PySem.W.Frag} {a : Addr} {xs : List V} {g : TG} {tb : TS} {D : Ends} {σ : St} {H : Hp} (Pv : Nat → St → Hp → Prop) (h0 : Pv 0 σ H) (hl : ∀ i σ H, i ≤ xs.length → Pv i σ H → SqL K H a xs)
    (hs : ∀ i x T σ H, xs[i]? = some x → H T = none → Pv i σ H → g (.ref T) σ (upd H T (.tup [.int (i : Nat), x])) fun σ2 H2 => tb { D with nx := Pv (i + 1), ct := Pv (i + 1), bk := D.nx } σ2 H2) (hd : ∀ σ H, Pv xs.length σ H → D.nx σ H) :
    ∃ W : Nat → Nat → St → Hp → Prop, (∃ m, W 0 m σ H) ∧ ∀ i m σ H, W i m σ H →
      ((Ite K a).stop i H ∧ D.nx σ H) ∨ ((Ite K a).go i H ∧ ∃ N : St → Hp → Prop, (∀ σ' H', N σ' H' → ∃ m', m' < m ∧ W (i + 1) m' σ' H') ∧ ∀ x H', (Ite K a).yld i H x H' → g x σ H' fun σ2 H2 => tb { D with nx := N, ct := N, bk := D.nx } σ2 H2) := by
  refine ⟨fun i m σ H => m = xs.length - i ∧ i ≤ xs.length ∧ Pv i σ H, ⟨xs.length, by simp, Nat.zero_le _, h0⟩, ?_⟩
  rintro i m σ H ⟨rfl, hi, p⟩
  have q := hl i σ H hi p
  by_cases hlt : i < xs.length
  · refine .inr ⟨⟨xs, xs[i], q, by simp [hlt]⟩, Pv (i + 1), fun σ' H' p' => ⟨xs.length - (i + 1), by omega, rfl, hlt, p'⟩, fun x H' y => ?_⟩
    obtain ⟨T, v, e1, e2, e3, y⟩ := y
    subst e1 e3
    exact hs i v T σ _ (y xs q) e2 p
  · have e : i = xs.length := by omega
    subst e
    exact .inl ⟨⟨xs, q, Nat.le_refl _⟩, hd σ H p⟩
end L2
set_option Elab.async false
set_option linter.all false
set_option maxRecDepth 100000
set_option maxHeartbeats 4000000
namespace L2
open PySem PySem.Spec PyProof.Rows
def SeqAt (h : Heap) (b : Bool) (l : Addr) (xs : Array Value) : Prop := bif b then h.IsTuple l xs else h.IsList l xs
def SItAt (h : Heap) (b : Bool) (it l : Addr) (i : Nat) : Prop := bif b then h.IsTupleIter it l i else h.IsListIter it l i
def itObj (b : Bool) (l : Addr) : Obj := { cls := .type (bif b then "tuple_iterator" else "list_iterator"), data := .fields #[.ref l, .int 0 0] }
theorem SeqAt.but {h h' : Heap} {b : Bool} {l c : Addr} {xs : Array Value} (x : SeqAt h b l xs) (e : Heap.ExtBut c h h') (n : l ≠ c) : SeqAt h' b l xs := by
  cases b
  · exact Heap.IsList.extBut x e n
  · exact Heap.IsTuple.extBut x e n
theorem SItAt.but {h h' : Heap} {b : Bool} {it l c : Addr} {i : Nat} (x : SItAt h b it l i) (e : Heap.ExtBut c h h') (n : it ≠ c) : SItAt h' b it l i := by
  cases b
  · exact Heap.IsListIter.extBut x e n
  · exact Heap.IsTupleIter.extBut x e n
theorem SItAt.keep {h h' : Heap} {b : Bool} {it l : Addr} {i : Nat} (x : SItAt h b it l i) (k : ∀ o, h.get? it = some o → h'.get? it = some o) : SItAt h' b it l i := by
  cases b
  · obtain ⟨o, e, r⟩ := (show h.IsListIter it l i from x); exact ⟨o, k o e, r⟩
  · obtain ⟨o, e, r⟩ := (show h.IsTupleIter it l i from x); exact ⟨o, k o e, r⟩
theorem SItAt.there {h : Heap} {b : Bool} {it l : Addr} {i : Nat} (x : SItAt h b it l i) : ∃ o, h.get? it = some o ∧ ∀ v, o.data ≠ .cell v := by
  cases b
  · obtain ⟨o, e, c, d⟩ := (show h.IsListIter it l i from x); exact ⟨o, e, fun v z => by rw [d] at z; cases z⟩
  · obtain ⟨o, e, c, d⟩ := (show h.IsTupleIter it l i from x); exact ⟨o, e, fun v z => by rw [d] at z; cases z⟩
section
variable {prog : Program} {w : World} {A : Around} {E : Value → Shared → Prop} {s : Shared}
theorem seq_iter {b : Bool} {l : Addr} {xs : Array Value} {Q : Value → Shared → Prop} (hl : SeqAt s.heap b l xs) (hQ : Q (.ref s.heap.objs.size) { s with heap := s.heap.push (itObj b l) }) : wpAny (model prog w) A (pyIter (.ref l)) Q E s := by
  cases b
  · exact wpAny_pyIter_list hl hQ
  · exact wpAny_pyIter_tuple hl hQ
theorem tup_draw {it t : Addr} {i : Nat} {its : Array Value} {x : Value} {Q : Value → Shared → Prop} (hit : s.heap.IsTupleIter it t i) (ht : s.heap.IsTuple t its) (hx : its[i]? = some x)
    (hQ : ∀ h1, h1.IsTupleIter it t (i + 1) → Heap.SameBut it s.heap h1 → Q x { s with heap := h1 }) : wpAny (model prog w) A (Builtin.SmallTypes.nextOf (.ref it)) Q E s := by
  obtain ⟨ob, hob, hcl, hdt⟩ := id hit
  obtain ⟨ot, hot, _, nt, hds⟩ := ht
  unfold Builtin.SmallTypes.nextOf
  refine wpAny_bind (wpAny_callSpecial?_slot (name := Str.ofString "__next__") hit.typeIs F.slot_tuple_iterator_next (wpAny_call_entry F.slot_tuple_iterator_next hit.typeIs F.entry_tuple_iterator_next ?_ (F.args_tuple_iterator_next_1 _)))
  show wpAny _ _ (field (.ref it) 0 >>= _) _ _ _
  refine wpAny_bind (wpAny_field hob hdt (x := .ref t) rfl ?_)
  show wpAny _ _ (if (Value.ref t == Value.none) = true then _ else _) _ _ _
  rw [if_neg (by simp)]
  show wpAny _ _ (field (.ref it) 1 >>= _) _ _ _
  refine wpAny_bind (wpAny_field hob hdt (x := .int i 0) rfl ?_)
  show wpAny _ _ (seqItems? (.ref t) >>= _) _ _ _
  refine wpAny_bind (wpAny_seqItems hot hds ?_)
  simp only [Int.toNat_natCast, hx]
  refine wpAny_bind (wpAny_setField hob hdt (by simp) (wpAny_pure ⟨x, rfl, wpAny_pure (hQ _ ⟨_, Heap.get?_update_self _ hob (Obj.isFreed_of_fields (Obj.data_mapFields hdt _)), (Obj.cls_mapFields ..).trans hcl, ?_⟩ (Heap.SameBut.update ..))⟩))
  rw [Obj.data_mapFields hdt]; simp [rawInt]
theorem tup_drawn {it t : Addr} {i : Nat} {its : Array Value} {Q : Value → Shared → Prop} (hh : A.handled = none) (hit : s.heap.IsTupleIter it t i) (ht : s.heap.IsTuple t its) (hx : its[i]? = none)
    (hE : ∀ h1 e, Heap.ExtBut it s.heap h1 → (∃ o, h1.get? e = some o ∧ o.cls = .type "StopIteration") → E (.ref e) { s with heap := h1 }) : wpAny (model prog w) A (Builtin.SmallTypes.nextOf (.ref it)) Q E s := by
  obtain ⟨ob, hob, hcl, hdt⟩ := id hit
  obtain ⟨ot, hot, _, nt, hds⟩ := ht
  unfold Builtin.SmallTypes.nextOf
  refine wpAny_bind (wpAny_callSpecial?_slot (name := Str.ofString "__next__") hit.typeIs F.slot_tuple_iterator_next (wpAny_call_entry F.slot_tuple_iterator_next hit.typeIs F.entry_tuple_iterator_next ?_ (F.args_tuple_iterator_next_1 _)))
  show wpAny _ _ (field (.ref it) 0 >>= _) _ _ _
  refine wpAny_bind (wpAny_field hob hdt (x := .ref t) rfl ?_)
  show wpAny _ _ (if (Value.ref t == Value.none) = true then _ else _) _ _ _
  rw [if_neg (by simp)]
  show wpAny _ _ (field (.ref it) 1 >>= _) _ _ _
  refine wpAny_bind (wpAny_field hob hdt (x := .int i 0) rfl ?_)
  show wpAny _ _ (seqItems? (.ref t) >>= _) _ _ _
  refine wpAny_bind (wpAny_seqItems hot hds ?_)
  simp only [Int.toNat_natCast, hx]
  refine wpAny_bind (wpAny_rule (wpAny_bind (wpAny_setField hob hdt (by simp) ?_)))
  show wpAny _ _ (newExc (.type "StopIteration") [] >>= _) _ _ _
  refine wpAny_bind ?_
  simp only [newExc, newTuple]
  refine wpAny_bind (wpAny_newObj_type ?_ (by size_fits))
  refine wpAny_bind (m := firstArgMember _ _) (wpAny_of_eq (a := Value.none) (by first | rfl | (simp only [firstArgMember]; rfl)) (wpAny_newObj_type ?_ (by size_fits)))
  simp only [raiseNew]
  refine wpAny_bind (wpAny_handled ?_)
  first | rw [show A.in1.handled = none from hh] | rw [hh]
  exact wpAny_bind (wpAny_pure (wpAny_throw (hE _ _ (((Heap.SameBut.update ..).extBut.push _).push _) ⟨_, Heap.get?_push_size _ rfl, rfl⟩)))
theorem seq_draw {b : Bool} {it l : Addr} {i : Nat} {xs : Array Value} {x : Value} {Q : Value → Shared → Prop} (hit : SItAt s.heap b it l i) (hl : SeqAt s.heap b l xs) (hx : xs[i]? = some x)
    (hQ : ∀ h1, SItAt h1 b it l (i + 1) → Heap.SameBut it s.heap h1 → Q x { s with heap := h1 }) : wpAny (model prog w) A (Builtin.SmallTypes.nextOf (.ref it)) Q E s := by
  cases b
  · exact wpAny_nextOf_list_item hit hl hx hQ
  · exact tup_draw hit hl hx hQ
theorem seq_drawn {b : Bool} {it l : Addr} {i : Nat} {xs : Array Value} {Q : Value → Shared → Prop} (hh : A.handled = none) (hit : SItAt s.heap b it l i) (hl : SeqAt s.heap b l xs) (hx : xs[i]? = none)
    (hE : ∀ h1 e, Heap.ExtBut it s.heap h1 → (∃ o, h1.get? e = some o ∧ o.cls = .type "StopIteration") → E (.ref e) { s with heap := h1 }) : wpAny (model prog w) A (Builtin.SmallTypes.nextOf (.ref it)) Q E s := by
  cases b
  · exact wpAny_nextOf_list_end hh hit hl hx hE
  · exact tup_drawn hh hit hl hx hE
structure ZA (z TI TO i1 i2 : Addr) : Prop where
  a1 : TI ≠ z
  a2 : TO ≠ z
  a3 : i1 ≠ z
  a4 : i2 ≠ z
  a5 : TI ≠ TO
  a6 : TI ≠ i1
  a7 : TI ≠ i2
  a8 : TO ≠ i1
  a9 : TO ≠ i2
  a0 : i1 ≠ i2
def Off (z TI TO i1 i2 l : Addr) : Prop := l ≠ z ∧ l ≠ TO ∧ l ≠ i1 ∧ l ≠ i2
theorem zipN_item {b1 b2 : Bool} {z TI TO i1 i2 l1 l2 : Addr} {k : Nat} {xs ys : Array Value} {x y p q : Value} {Q : Value → Shared → Prop} (D : ZA z TI TO i1 i2) (f1 : Off z TI TO i1 i2 l1) (f2 : Off z TI TO i1 i2 l2)
    (hz : IsZip s.heap z TI TO .none) (hI : IsPair s.heap TI (.ref i1) (.ref i2)) (hO : IsPair s.heap TO p q) (h1 : SItAt s.heap b1 i1 l1 k) (h2 : SItAt s.heap b2 i2 l2 k) (hl1 : SeqAt s.heap b1 l1 xs) (hl2 : SeqAt s.heap b2 l2 ys) (hx : xs[k]? = some x) (hy : ys[k]? = some y)
    (hQ : ∀ g, IsZip g z TI TO (rawInt s.heap.objs.size) → IsPair g TO x y → SItAt g b1 i1 l1 (k + 1) → SItAt g b2 i2 l2 (k + 1) → IsPair g s.heap.objs.size x y →
      (∀ c o, c ≠ z → c ≠ TO → c ≠ i1 → c ≠ i2 → s.heap.get? c = some o → g.get? c = some o) → Q (.ref s.heap.objs.size) { s with heap := g }) :
    wpAny (model prog w) A (Builtin.«zip.__next__» ⟨[.ref z], []⟩) (fun fin s1 => ∃ v, fin = .done (.ret v) ∧ Q v s1) E s := by
  show wpAny _ _ (field (.ref z) 2 >>= _) _ _ _
  refine wpAny_bind (wpAny_field hz rfl (x := .bool false) rfl ?_)
  show wpAny _ _ (field (.ref z) 3 >>= _) _ _ _
  refine wpAny_bind (wpAny_field hz rfl (x := .ref TI) rfl (wpAny_bind (wpAny_seqItems hI rfl ?_)))
  show wpAny _ _ (Builtin.SmallTypes.ownedTupleIsFree (.ref z) >>= _) _ _ _
  refine wpAny_bind ?_
  unfold Builtin.SmallTypes.ownedTupleIsFree
  refine wpAny_bind (wpAny_field hz rfl (x := .none) rfl (wpAny_pure ?_))
  simp only [if_true]
  refine wpAny_bind (wpAny_rule (wpAny_bind (wpAny_field hz rfl (x := .ref TO) rfl (wpAny_bind (wpAny_setField_rec hz (by simp) fun g1 z1 e1 => ?_)))))
  replace z1 : IsZip g1 z TI TO .ellipsis := z1
  refine wpAny_bind ?_
  simp only [List.zipIdx_cons, List.zipIdx_nil, List.forIn_cons, List.forIn_nil]
  refine wpAny_bind (wpAny_bind (wpAny_onRaise ?_))
  show wpAny _ _ (Builtin.SmallTypes.nextOf (.ref i1) >>= _) _ _ _
  refine wpAny_bind (seq_draw (h1.but e1.extBut D.a3) (hl1.but e1.extBut f1.1) hx fun g2 j2 e2 => wpAny_pure ?_)
  have o2 : IsPair g2 TO p q := e2.extBut _ _ D.a8 (e1.extBut _ _ D.a2 hO)
  refine wpAny_bind (wpAny_seqItems o2 rfl (wpAny_bind (wpAny_updateSeq_pair o2 fun g3 o3 e3 => ?_)))
  replace o3 : IsPair g3 TO x q := o3
  refine wpAny_bind (wpAny_letGo (wpAny_pure (wpAny_bind (wpAny_bind (wpAny_onRaise ?_)))))
  show wpAny _ _ (Builtin.SmallTypes.nextOf (.ref i2) >>= _) _ _ _
  refine wpAny_bind (seq_draw (((h2.but e1.extBut D.a4).but e2.extBut D.a0.symm).but e3.extBut D.a9.symm) (((hl2.but e1.extBut f2.1).but e2.extBut f2.2.2.1).but e3.extBut f2.2.1) hy fun g4 j4 e4 => wpAny_pure ?_)
  have o4 : IsPair g4 TO x q := e4.extBut _ _ D.a9 o3
  refine wpAny_bind (wpAny_seqItems o4 rfl (wpAny_bind (wpAny_updateSeq_pair o4 fun g5 o5 e5 => ?_)))
  replace o5 : IsPair g5 TO x y := o5
  refine wpAny_bind (wpAny_letGo (wpAny_pure (wpAny_pure (wpAny_bind (wpAny_seqItems o5 rfl (wpAny_bind (wpAny_newTuple ?_)))))))
  have sz : g5.objs.size = s.heap.objs.size := by rw [e5.1, e4.1, e3.1, e2.1, e1.1]
  have z5 : IsZip g5 z TI TO .ellipsis := e5.extBut _ _ D.a2.symm (e4.extBut _ _ D.a4.symm (e3.extBut _ _ D.a2.symm (e2.extBut _ _ D.a3.symm z1)))
  have k5 : ∀ c o, c ≠ z → c ≠ TO → c ≠ i1 → c ≠ i2 → s.heap.get? c = some o → g5.get? c = some o := fun c o c1 c2 c3 c4 e => e5.extBut _ _ c2 (e4.extBut _ _ c4 (e3.extBut _ _ c2 (e2.extBut _ _ c3 (e1.extBut _ _ c1 e))))
  have j5 : SItAt g5 b1 i1 l1 (k + 1) := ((j2.but e3.extBut D.a8.symm).but e4.extBut D.a0).but e5.extBut D.a8.symm
  have j6 : SItAt g5 b2 i2 l2 (k + 1) := j4.but e5.extBut D.a9.symm
  have lz : z < g5.objs.size := Heap.lt_size z5
  show wpAny _ _ (Builtin.SmallTypes.ownedTupleHandOut (.ref z) (.ref g5.objs.size) >>= _) _ _ _
  refine wpAny_bind ?_
  unfold Builtin.SmallTypes.ownedTupleHandOut
  have z6 : IsZip (g5.push { cls := .type "tuple", data := .seq #[x, y] }) z TI TO .ellipsis := Heap.get?_push_of_some _ z5
  refine wpAny_bind (wpAny_setField_rec z6 (by simp) fun g7 z7 e7 => ?_)
  replace z7 : IsZip g7 z TI TO (rawInt g5.objs.size) := z7
  refine wpAny_setField_rec z7 (by simp) fun g8 z8 e8 => ?_
  replace z8 : IsZip g8 z TI TO (rawInt g5.objs.size) := z8
  have up : ∀ c o, c ≠ z → g5.get? c = some o → g8.get? c = some o := fun c o c1 e => e8.extBut _ _ c1 (e7.extBut _ _ c1 (Heap.get?_push_of_some _ e))
  have t8 : IsPair g8 g5.objs.size x y := e8.extBut _ _ (Nat.ne_of_gt lz) (e7.extBut _ _ (Nat.ne_of_gt lz) (Heap.get?_push_size _ rfl))
  rw [sz] at z8 t8
  refine wpAny_pure ⟨_, rfl, ?_⟩
  show Q (.ref g5.objs.size) _
  rw [sz]
  exact hQ g8 z8 (up _ _ D.a2 o5) (j5.keep fun o e => up _ o D.a3 e) (j6.keep fun o e => up _ o D.a4 e) t8 fun c o c1 c2 c3 c4 e => up c o c1 (k5 c o c1 c2 c3 c4 e)
theorem zipN_end {b1 b2 : Bool} {z TI TO i1 i2 l1 l2 : Addr} {k : Nat} {xs ys : Array Value} {p q : Value} {Q : Fin → Shared → Prop} (hh : A.handled = none) (D : ZA z TI TO i1 i2) (f1 : Off z TI TO i1 i2 l1) (f2 : Off z TI TO i1 i2 l2)
    (hz : IsZip s.heap z TI TO .none) (hI : IsPair s.heap TI (.ref i1) (.ref i2)) (hO : IsPair s.heap TO p q) (h1 : SItAt s.heap b1 i1 l1 k) (h2 : SItAt s.heap b2 i2 l2 k) (hl1 : SeqAt s.heap b1 l1 xs) (hl2 : SeqAt s.heap b2 l2 ys) (he : xs[k]? = none ∨ ys[k]? = none)
    (hE : ∀ g e, (∀ c o, c ≠ z → c ≠ TO → c ≠ i1 → c ≠ i2 → s.heap.get? c = some o → g.get? c = some o) → (∃ o, g.get? e = some o ∧ o.cls = .type "StopIteration") → E (.ref e) { s with heap := g }) :
    wpAny (model prog w) A (Builtin.«zip.__next__» ⟨[.ref z], []⟩) Q E s := by
  show wpAny _ _ (field (.ref z) 2 >>= _) _ _ _
  refine wpAny_bind (wpAny_field hz rfl (x := .bool false) rfl ?_)
  show wpAny _ _ (field (.ref z) 3 >>= _) _ _ _
  refine wpAny_bind (wpAny_field hz rfl (x := .ref TI) rfl (wpAny_bind (wpAny_seqItems hI rfl ?_)))
  show wpAny _ _ (Builtin.SmallTypes.ownedTupleIsFree (.ref z) >>= _) _ _ _
  refine wpAny_bind ?_
  unfold Builtin.SmallTypes.ownedTupleIsFree
  refine wpAny_bind (wpAny_field hz rfl (x := .none) rfl (wpAny_pure ?_))
  simp only [if_true]
  refine wpAny_bind (wpAny_rule (wpAny_bind (wpAny_field hz rfl (x := .ref TO) rfl (wpAny_bind (wpAny_setField_rec hz (by simp) fun g1 z1 e1 => ?_)))))
  replace z1 : IsZip g1 z TI TO .ellipsis := z1
  refine wpAny_bind ?_
  simp only [List.zipIdx_cons, List.zipIdx_nil, List.forIn_cons, List.forIn_nil]
  refine wpAny_bind (wpAny_bind (wpAny_onRaise ?_))
  show wpAny _ _ (Builtin.SmallTypes.nextOf (.ref i1) >>= _) _ _ _
  cases hx : xs[k]? with
  | none =>
    refine wpAny_bind (seq_drawn hh (h1.but e1.extBut D.a3) (hl1.but e1.extBut f1.1) hx fun g2 e e2 hs => ?_)
    obtain ⟨oe, hoe, hce⟩ := hs
    have z2 : IsZip g2 z TI TO .ellipsis := e2 _ _ D.a3.symm z1
    have ne : e ≠ z := fun x => by subst x; rw [z2] at hoe; cases hoe; simp at hce
    exact wpAny_setField_rec z2 (by simp) fun g3 _ e3 => hE g3 e (fun c o c1 _ c3 _ x => e3.extBut _ _ c1 (e2 _ _ c3 (e1.extBut _ _ c1 x))) ⟨oe, e3.extBut _ _ ne hoe, hce⟩
  | some x =>
    have hy : ys[k]? = none := by
      rcases he with h | h
      · rw [hx] at h; cases h
      · exact h
    refine wpAny_bind (seq_draw (h1.but e1.extBut D.a3) (hl1.but e1.extBut f1.1) hx fun g2 j2 e2 => wpAny_pure ?_)
    have o2 : IsPair g2 TO p q := e2.extBut _ _ D.a8 (e1.extBut _ _ D.a2 hO)
    refine wpAny_bind (wpAny_seqItems o2 rfl (wpAny_bind (wpAny_updateSeq_pair o2 fun g3 o3 e3 => ?_)))
    refine wpAny_bind (wpAny_letGo (wpAny_pure (wpAny_bind (wpAny_bind (wpAny_onRaise ?_)))))
    show wpAny _ _ (Builtin.SmallTypes.nextOf (.ref i2) >>= _) _ _ _
    refine wpAny_bind (seq_drawn hh (((h2.but e1.extBut D.a4).but e2.extBut D.a0.symm).but e3.extBut D.a9.symm) (((hl2.but e1.extBut f2.1).but e2.extBut f2.2.2.1).but e3.extBut f2.2.1) hy fun g4 e e4 hs => ?_)
    obtain ⟨oe, hoe, hce⟩ := hs
    have z4 : IsZip g4 z TI TO .ellipsis := e4 _ _ D.a4.symm (e3.extBut _ _ D.a2.symm (e2.extBut _ _ D.a3.symm z1))
    have ne : e ≠ z := fun x => by subst x; rw [z4] at hoe; cases hoe; simp at hce
    exact wpAny_setField_rec z4 (by simp) fun g5 _ e5 => hE g5 e (fun c o c1 c2 c3 c4 x => e5.extBut _ _ c1 (e4 _ _ c4 (e3.extBut _ _ c2 (e2.extBut _ _ c3 (e1.extBut _ _ c1 x))))) ⟨oe, e5.extBut _ _ ne hoe, hce⟩
end
abbrev zg1 (h : Heap) (b1 : Bool) (l1 : Addr) : Heap := h.push (itObj b1 l1)
abbrev zg2 (h : Heap) (b1 b2 : Bool) (l1 l2 : Addr) : Heap := (zg1 h b1 l1).push (itObj b2 l2)
abbrev zg3 (h : Heap) (b1 b2 : Bool) (l1 l2 : Addr) : Heap := (zg2 h b1 b2 l1 l2).push { cls := .type "tuple", data := .seq #[.ref h.objs.size, .ref (zg1 h b1 l1).objs.size] }
abbrev zg4 (h : Heap) (b1 b2 : Bool) (l1 l2 : Addr) : Heap := (zg3 h b1 b2 l1 l2).push { cls := .type "tuple", data := .seq #[.none, .none] }
abbrev zg5 (h : Heap) (b1 b2 : Bool) (l1 l2 : Addr) : Heap := (zg4 h b1 b2 l1 l2).push { cls := .type "zip", data := .fields #[.none, .bool false, .bool false, .ref (zg2 h b1 b2 l1 l2).objs.size, .ref (zg3 h b1 b2 l1 l2).objs.size] }
theorem SeqAt.push {h : Heap} {b : Bool} {l : Addr} {xs : Array Value} (x : SeqAt h b l xs) (o : Obj) : SeqAt (h.push o) b l xs := by
  cases b
  · exact Heap.IsList.push x o
  · exact Heap.IsTuple.push x o
theorem zipN_new (b1 b2 : Bool) (l1 l2 : Addr) (xs ys : Array Value) :
    Meets (Builtin.«zip.__new__» ⟨[.type "zip", .ref l1, .ref l2], []⟩) (fun _ R s => SeqAt s.heap b1 l1 xs ∧ SeqAt s.heap b2 l2 ys ∧
      R (.ok (.ret (.ref (zg4 s.heap b1 b2 l1 l2).objs.size))) { s with heap := zg5 s.heap b1 b2 l1 l2 }) :=
  .of_wp fun prog w A R s h => by
    obtain ⟨hp, g, d, tk, os⟩ := s; obtain ⟨g1, g2, h⟩ := h
    have hsub := sub_zip
    have q1 : SeqAt (Shared.heap ⟨hp, g, d, tk, os⟩) b1 l1 xs := g1
    have q2 : SeqAt (Shared.heap ⟨hp.push (itObj b1 l1), g, d, tk, os⟩) b2 l2 ys := SeqAt.push g2 _
    wp_walk using seq_iter q1, seq_iter q2
    exact ⟨_, rfl, h⟩
section
variable {prog : Program} {w : World} {A : Around} {E : Value → Shared → Prop} {s : Shared}
theorem call_zipN {b1 b2 : Bool} {l1 l2 : Addr} {xs ys : Array Value} {Q : Value → Shared → Prop} (q1 : SeqAt s.heap b1 l1 xs) (q2 : SeqAt s.heap b2 l2 ys)
    (h : ∀ g, IsZip g (s.heap.objs.size + 4) (s.heap.objs.size + 2) (s.heap.objs.size + 3) .none → IsPair g (s.heap.objs.size + 2) (.ref s.heap.objs.size) (.ref (s.heap.objs.size + 1)) →
      IsPair g (s.heap.objs.size + 3) .none .none → SItAt g b1 s.heap.objs.size l1 0 → SItAt g b2 (s.heap.objs.size + 1) l2 0 →
      (∀ c o, s.heap.get? c = some o → g.get? c = some o) → Q (.ref (s.heap.objs.size + 4)) { s with heap := g }) :
    wpAny (model prog w) A (call (.type "zip") [.ref l1, .ref l2]) Q E s := by
  refine callType_new F.called_zip (by decide) (F.typeCall_zip_2 _ _) (F.newCall_zip_2 _ _) (fun obj => F.args_object_init_3 obj _ _) F.entry_zip_new (zipN_new b1 b2 l1 l2 xs ys) ⟨q1, q2, ?_⟩
  have y1 : (zg1 s.heap b1 l1).objs.size = s.heap.objs.size + 1 := Heap.size_push ..
  have y2 : (zg2 s.heap b1 b2 l1 l2).objs.size = s.heap.objs.size + 2 := by rw [Heap.size_push, y1]
  have y3 : (zg3 s.heap b1 b2 l1 l2).objs.size = s.heap.objs.size + 3 := by rw [Heap.size_push, y2]
  have y4 : (zg4 s.heap b1 b2 l1 l2).objs.size = s.heap.objs.size + 4 := by rw [Heap.size_push, y3]
  have r5 : (zg5 s.heap b1 b2 l1 l2).get? (zg4 s.heap b1 b2 l1 l2).objs.size = some _ := Heap.get?_push_size _ rfl
  have r4 : (zg5 s.heap b1 b2 l1 l2).get? (zg3 s.heap b1 b2 l1 l2).objs.size = some _ := Heap.get?_push_of_some _ (Heap.get?_push_size _ rfl)
  have r3 : (zg5 s.heap b1 b2 l1 l2).get? (zg2 s.heap b1 b2 l1 l2).objs.size = some _ := Heap.get?_push_of_some _ (Heap.get?_push_of_some _ (Heap.get?_push_size _ rfl))
  have r2 : (zg5 s.heap b1 b2 l1 l2).get? (zg1 s.heap b1 l1).objs.size = some (itObj b2 l2) := Heap.get?_push_of_some _ (Heap.get?_push_of_some _ (Heap.get?_push_of_some _ (Heap.get?_push_size _ (by cases b2 <;> rfl))))
  have r1 : (zg5 s.heap b1 b2 l1 l2).get? s.heap.objs.size = some (itObj b1 l1) := Heap.get?_push_of_some _ (Heap.get?_push_of_some _ (Heap.get?_push_of_some _ (Heap.get?_push_of_some _ (Heap.get?_push_size _ (by cases b1 <;> rfl)))))
  show _ ∧ _
  rw [y2, y3, y4] at r5
  rw [y1, y2] at r3
  rw [y3] at r4
  rw [y1] at r2
  rw [y4]
  refine ⟨⟨_, r5, rfl⟩, h _ r5 r3 r4 ?_ ?_ fun c o x => Heap.get?_push_of_some _ (Heap.get?_push_of_some _ (Heap.get?_push_of_some _ (Heap.get?_push_of_some _ (Heap.get?_push_of_some _ x))))⟩
  · cases b1
    · exact (show Heap.IsListIter _ _ _ _ from ⟨_, r1, rfl, rfl⟩)
    · exact (show Heap.IsTupleIter _ _ _ _ from ⟨_, r1, rfl, rfl⟩)
  · cases b2
    · exact (show Heap.IsListIter _ _ _ _ from ⟨_, r2, rfl, rfl⟩)
    · exact (show Heap.IsTupleIter _ _ _ _ from ⟨_, r2, rfl, rfl⟩)
end
section
variable {X : Cx} {pins : List (Addr × Obj)} {σ : St} {H : Hp} {s : Shared} {a c : Addr} {xs ys : List V} {b : Bool}
theorem Inv.seqB (I : Inv X pins σ H s) (h : SqB X.K b H a xs) : ∃ its : List Value, Vals xs its ∧ SeqAt s.heap b a its.toArray := by
  cases b
  · obtain ⟨its, r, p, _⟩ := I.list (show SqL X.K H a xs from h)
    exact ⟨its, r, p.isList⟩
  · obtain ⟨its, r, p, _⟩ := I.tuple (show SqT X.K H a xs from h)
    exact ⟨its, r, p⟩
theorem Inv.seqB_inj (I : Inv X pins σ H s) (h : SqB X.K b H a xs) (h' : SqB X.K b H a ys) : xs = ys := by
  cases b
  · exact I.list_inj h h'
  · exact I.tuple_inj h h'
end
def Itz (K : PySem.W.Frag) (b1 b2 : Bool) (a1 a2 : Addr) : It :=
  ⟨fun i H => ∃ xs ys x y, SqB K b1 H a1 xs ∧ SqB K b2 H a2 ys ∧ xs[i]? = some x ∧ ys[i]? = some y,
   fun i H x H' => ∃ T v u, x = .ref T ∧ H T = none ∧ H' = upd H T (.tup [v, u]) ∧ (∀ xs, SqB K b1 H a1 xs → xs[i]? = some v) ∧ ∀ ys, SqB K b2 H a2 ys → ys[i]? = some u,
   fun i H => ∃ xs ys, SqB K b1 H a1 xs ∧ SqB K b2 H a2 ys ∧ (xs.length ≤ i ∨ ys.length ≤ i)⟩
theorem turn_zip {P : Program} {w : World} {K : PySem.W.Frag} {es : List Expr} {k : Nat} {pos : Pos} (b1 b2 : Bool) (a1 a2 z TI TO i1 i2 : Addr) (D : ZA z TI TO i1 i2) :
    Turn P w K (.Tuple es k pos) (Itz K b1 b2 a1 a2) [z, TI, TO, i1, i2] z (fun i h => IsZip h z TI TO .none ∧ IsPair h TI (.ref i1) (.ref i2) ∧ (∃ p q, IsPair h TO p q) ∧ SItAt h b1 i1 a1 i ∧ SItAt h b2 i2 a2 i) where
  mem := by simp
  obj := fun i h st b hb => by
    obtain ⟨h1, h2, ⟨p, q, h3⟩, h4, h5⟩ := st
    have hb' : b = z ∨ b = TI ∨ b = TO ∨ b = i1 ∨ b = i2 := by simpa using hb
    rcases hb' with e | e | e | e | e
    · subst e; exact ⟨_, h1, fun v z => by
        have z' : Data.fields _ = Data.cell v := z
        cases z'⟩
    · subst e; exact ⟨_, h2, fun v z => by
        have z' : Data.seq _ _ = Data.cell v := z
        cases z'⟩
    · subst e; exact ⟨_, h3, fun v z => by
        have z' : Data.seq _ _ = Data.cell v := z
        cases z'⟩
    · subst e; exact h4.there
    · subst e; exact h5.there
  keep := fun i h h' st kk => by
    obtain ⟨h1, h2, ⟨p, q, h3⟩, h4, h5⟩ := st
    exact ⟨kk z (by simp) _ h1, kk TI (by simp) _ h2, ⟨p, q, kk TO (by simp) _ h3⟩, h4.keep fun o e => kk i1 (by simp) o e, h5.keep fun o e => kk i2 (by simp) o e⟩
  item := by
    intro X hP hw hK hc i pins s σ H E I hf st hg
    subst hP hw hK
    obtain ⟨xs, ys, x, y, q1, q2, hx, hy⟩ := hg
    obtain ⟨h1, h2, ⟨p, q, h3⟩, h4, h5⟩ := st
    obtain ⟨its, rv, p1⟩ := I.seqB q1
    obtain ⟨jts, rw', p2⟩ := I.seqB q2
    obtain ⟨u, hu, ru⟩ := rv.get hx
    obtain ⟨v, hv, rv2⟩ := rw'.get hy
    have off : ∀ {b : Bool} {a : Addr} {zs : List V}, SqB X.K b H a zs → Off z TI TO i1 i2 a := fun hq =>
      ⟨I.away (hf z (by simp)) hq, I.away (hf TO (by simp)) hq, I.away (hf i1 (by simp)) hq, I.away (hf i2 (by simp)) hq⟩
    have hT : s.TypeIs (.ref z) "zip" := ⟨_, h1, rfl⟩
    unfold pyNext
    refine wpAny_bind (wpAny_attempt (wpAny_callSpecial?_slot (name := Str.ofString "__next__") hT F.slot_zip_next (wpAny_call_entry F.slot_zip_next hT F.entry_zip_next (zipN_item D (off q1) (off q2) h1 h2 h3 h4 h5 p1 p2 (by simpa using hu) (by simpa using hv) fun g y1 y2 y3 y4 y5 y6 => ?_) (F.args_zip_next_1 _))))
    refine wpAny_pure ⟨_, rfl, ?_⟩
    have lt : ∀ {c o}, s.heap.get? c = some o → s.heap.objs.size ≠ c := fun e => Nat.ne_of_gt (Heap.lt_size e)
    refine wpAny_letOwnedTupleGo_zip y1 fun g2 z2 e2 => ?_
    have e2' : Heap.SameBut z g g2 := e2
    have kk : ∀ b o, b ∉ [z, TI, TO, i1, i2] → s.heap.get? b = some o → g2.get? b = some o := fun b o hb q => by
      have hb' : b ≠ z ∧ b ≠ TI ∧ b ≠ TO ∧ b ≠ i1 ∧ b ≠ i2 := by simpa using hb
      exact e2'.extBut _ _ hb'.1 (y6 b o hb'.1 hb'.2.2.1 hb'.2.2.2.1 hb'.2.2.2.2 q)
    have hT2 : g2.get? s.heap.objs.size = some { cls := .type "tuple", data := .seq #[u, v] } := e2'.extBut _ _ (lt h1) y5
    have new : ObjOk X.prog X.w (upd H s.heap.objs.size (.tup [x, y])) g2 s.heap.objs.size (.tup [x, y]) := ⟨by show 2 ≤ sizeLine; decide, [u, v], .cons ru (.cons rv2 .nil), ⟨_, hT2, rfl, _, rfl⟩⟩
    have hnT : H s.heap.objs.size = none := I.hok.fresh (Nat.le_refl _)
    refine ⟨.ref s.heap.objs.size, upd H s.heap.objs.size (.tup [x, y]), I.turnedNew kk hf (Nat.le_refl _) new, rfl, ⟨_, x, y, rfl, hnT, rfl, fun zs hz => by rw [I.seqB_inj hz q1]; exact hx, fun zs hz => by rw [I.seqB_inj hz q2]; exact hy⟩,
      ⟨z2, e2'.extBut _ _ D.a1 (y6 _ _ D.a1 D.a5 D.a6 D.a7 h2), ⟨_, _, e2'.extBut _ _ D.a2 y2⟩, y3.but e2'.extBut D.a3, y4.but e2'.extBut D.a4⟩, fun b hb => ?_⟩
    have hne : b ≠ s.heap.objs.size := by
      have hb' : b = z ∨ b = TI ∨ b = TO ∨ b = i1 ∨ b = i2 := by simpa using hb
      rcases hb' with e | e | e | e | e
      · rw [e]; exact Ne.symm (lt h1)
      · rw [e]; exact Ne.symm (lt h2)
      · rw [e]; exact Ne.symm (lt h3)
      · obtain ⟨o, q, _⟩ := h4.there; rw [e]; exact Ne.symm (lt q)
      · obtain ⟨o, q, _⟩ := h5.there; rw [e]; exact Ne.symm (lt q)
    rw [upd_ne hne]
    exact (hf b hb).1
  done := by
    intro X hP hw hK hc i pins s σ H E I hf st hg
    subst hP hw hK
    obtain ⟨xs, ys, q1, q2, hx⟩ := hg
    obtain ⟨h1, h2, ⟨p, q, h3⟩, h4, h5⟩ := st
    obtain ⟨its, rv, p1⟩ := I.seqB q1
    obtain ⟨jts, rw', p2⟩ := I.seqB q2
    have off : ∀ {b : Bool} {a : Addr} {zs : List V}, SqB X.K b H a zs → Off z TI TO i1 i2 a := fun hq =>
      ⟨I.away (hf z (by simp)) hq, I.away (hf TO (by simp)) hq, I.away (hf i1 (by simp)) hq, I.away (hf i2 (by simp)) hq⟩
    have hT : s.TypeIs (.ref z) "zip" := ⟨_, h1, rfl⟩
    have l1 := rv.length
    have l2 := rw'.length
    unfold pyNext
    refine wpAny_bind (wpAny_attempt (wpAny_callSpecial?_slot (name := Str.ofString "__next__") hT F.slot_zip_next (wpAny_call_entry F.slot_zip_next hT F.entry_zip_next
      (zipN_end (A := X.A.in1) (I.ok.hd hc) D (off q1) (off q2) h1 h2 h3 h4 h5 p1 p2 (by simp; omega) fun g e kk he => ?_) (F.args_zip_next_1 _))))
    obtain ⟨o, ho, hcc⟩ := he
    refine wpAny_bind (wpAny_isInstance (T := "StopIteration") (b := true) ⟨o, ho, hcc⟩ isSubtype_stop ?_)
    refine wpAny_pure ⟨rfl, ?_⟩
    have k2 : ∀ b o, b ∉ [z, TO, i1, i2] → s.heap.get? b = some o → g.get? b = some o := fun b o hb q => by
      have hb' : b ≠ z ∧ b ≠ TO ∧ b ≠ i1 ∧ b ≠ i2 := by simpa using hb
      exact kk b o hb'.1 hb'.2.1 hb'.2.2.1 hb'.2.2.2 q
    exact I.turnedL0 (t' := s.toks) k2 fun b hb => hf b (by
      have hb' : b = z ∨ b = TO ∨ b = i1 ∨ b = i2 := by simpa using hb
      rcases hb' with e | e | e | e <;> simp [e])
  self := fun _ _ _ _ _ st h => wpAny_pyIter_zip st.1 h
section
variable {X : Cx} {es : List Expr} {k : Nat} {tpos : Pos}
def iZip (K : PySem.W.Frag) (ta : TA) : TI := fun σ H R => ta σ H fun vs H1 => ∃ b1 b2 a1 a2, vs = [.ref a1, .ref a2] ∧ (∃ xs, SqB K b1 H1 a1 xs) ∧ (∃ ys, SqB K b2 H1 a2 ys) ∧ R (Itz K b1 b2 a1 a2) H1
theorem pi_zip {e e' : Expr} {ta : TA} {p pos : Pos} (hg : Gl X "zip") (hm : X.mg "zip" = none) (ha : PA X [e, e'] ta) (hs : starEach [e, e'] X.env = [(false, eval e X.env), (false, eval e' X.env)] := by rfl) (hs2 : starEach [e'] X.env = [(false, eval e' X.env)] := by rfl) :
    PI X (.Tuple es k tpos) (.Call (.Name "zip" p) [e, e'] [] pos) (iZip X.K ta) := by
  intro pins s σ H R I h
  refine Call_ (ld_blt I hg hm (u := .type "zip") (by rfl) (PyProof.Rows.callWith_type1 (thn (ha pos pins s σ H _ I h) fun us s1 ⟨vs, H1, I1, r1, q1⟩ => ?_) (by rw [hs, hs2]) (by rw [hs2]; rfl)))
  obtain ⟨b1, b2, a1, a2, rfl, ⟨xs, h1⟩, ⟨ys, h2⟩, q⟩ := q1
  obtain ⟨u, u', rfl, r, r'⟩ := vals2 r1
  obtain rfl : u = Value.ref a1 := r
  obtain rfl : u' = Value.ref a2 := r'
  obtain ⟨its, rv, p1⟩ := I1.seqB h1
  obtain ⟨jts, rw', p2⟩ := I1.seqB h2
  refine call_zipN p1 p2 fun g y1 y2 y3 y4 y5 y6 => ?_
  refine wpAny_pyIter_zip y1 ?_
  have I2 : Inv X pins σ H1 { s1 with heap := g } := I1.kept (t' := s1.toks) y6
  have D : ZA (s1.heap.objs.size + 4) (s1.heap.objs.size + 2) (s1.heap.objs.size + 3) s1.heap.objs.size (s1.heap.objs.size + 1) := by
    constructor <;> (show (_ : Nat) ≠ _; omega)
  refine ⟨s1.heap.objs.size + 4, _, _, _, H1, rfl, I2, turn_zip b1 b2 a1 a2 _ _ _ _ _ D, ⟨y1, y2, ⟨_, _, y3⟩, y4, y5⟩, fun b hb => ?_, q⟩
  have hb' : b = s1.heap.objs.size + 4 ∨ b = s1.heap.objs.size + 2 ∨ b = s1.heap.objs.size + 3 ∨ b = s1.heap.objs.size ∨ b = s1.heap.objs.size + 1 := by simpa using hb
  have hle : s1.heap.objs.size ≤ b := by rcases hb' with z | z | z | z | z <;> rw [z] <;> first | exact Nat.le_add_right _ _ | exact Nat.le_refl _
  exact I1.fpOk hle (I1.hok.fresh hle)
end
end L2
set_option Elab.async false
set_option linter.all false
set_option maxRecDepth 100000
set_option maxHeartbeats 4000000
namespace L2
open PySem PySem.Spec PyProof.Rows
def closes (env : Env) : List (Str × NameKind) → List (Str × Addr) → List (Str × Addr)
  | [], cs => cs
  | (n, k) :: r, cs => closes env r (if k == .free then (match env.cells.lookup n with | some c => (n, c) :: cs | none => cs) else cs)
theorem closes_mem {env : Env} : ∀ {ns : List (Str × NameKind)} {cs : List (Str × Addr)} {x : Str} {c : Addr}, (∀ y d, (y, d) ∈ cs → env.cells.lookup y = some d) → (x, c) ∈ closes env ns cs → env.cells.lookup x = some c
  | [], _, _, _, h, m => h _ _ m
  | (n, k) :: r, cs, x, c, h, m => by
    unfold closes at m
    refine closes_mem (ns := r) (fun y d hm => ?_) m
    by_cases hk : (k == NameKind.free) = true
    · rw [if_pos hk] at hm
      cases e : env.cells.lookup n with
      | none => rw [e] at hm; exact h _ _ hm
      | some a =>
        rw [e] at hm
        rcases List.mem_cons.mp hm with q | q
        · cases q; exact e
        · exact h _ _ q
    · rw [if_neg hk] at hm; exact h _ _ hm
theorem closes_has {env : Env} : ∀ {ns : List (Str × NameKind)} {cs : List (Str × Addr)} {x : Str} {c : Addr}, (x, NameKind.free) ∈ ns ∨ (x, c) ∈ cs → env.cells.lookup x = some c → (x, c) ∈ closes env ns cs
  | [], _, _, _, h, _ => h.elim (fun z => absurd z (by simp)) id
  | (n, k) :: r, cs, x, c, h, e => by
    unfold closes
    refine closes_has (ns := r) ?_ e
    rcases h with h | h
    · rcases List.mem_cons.mp h with q | q
      · cases q
        right
        rw [if_pos (by rfl), e]
        exact List.mem_cons_self
      · exact .inl q
    · right
      by_cases hk : (k == NameKind.free) = true
      · rw [if_pos hk]
        cases env.cells.lookup n with
        | none => exact h
        | some a => exact List.mem_cons_of_mem _ h
      · rw [if_neg hk]; exact h
theorem closureFor_closes {scope : Scope} {env : Env} (h : ∀ x ∈ scope.names, x.2 = .free → ∃ c, env.cells.lookup x.1 = some c) : closureFor scope env = pure (closes env scope.names []) := by
  have all : ∀ (ns : List (Str × NameKind)) (cs : List (Str × Addr)), (∀ x ∈ ns, x.2 = .free → ∃ c, env.cells.lookup x.1 = some c) →
      (forIn ns cs fun (x : Str × NameKind) (r : List (Str × Addr)) => (if x.2 == .free then do let c ← cellOf env x.1; pure (ForInStep.yield ((x.1, c) :: r)) else pure (ForInStep.yield r) : Sem _)) = pure (closes env ns cs) := by
    intro ns
    induction ns with
    | nil => intro cs _; rfl
    | cons x r ih =>
      obtain ⟨n, k⟩ := x
      intro cs hx
      rw [List.forIn_cons]
      unfold closes
      by_cases hk : (k == NameKind.free) = true
      · have hk' : k = .free := by simpa using hk
        obtain ⟨c, e⟩ := hx (n, k) List.mem_cons_self hk'
        have e' : env.cells.lookup n = some c := e
        have e2 : cellOf env n = pure c := by unfold cellOf; rw [e']
        simp only [hk, if_true, e2, pure_bind, e']
        exact ih _ fun y hy => hx y (List.mem_cons_of_mem _ hy)
      · simp only [hk, Bool.false_eq_true, if_false, pure_bind]
        exact ih _ fun y hy => hx y (List.mem_cons_of_mem _ hy)
  have := all scope.names [] h
  simp only [closureFor]
  first
    | exact (bind_congr fun _ => rfl).trans (by rw [this, pure_bind])
    | (show (forIn scope.names [] _ >>= _) = _; rw [show (forIn scope.names ([] : List (Str × Addr)) _) = _ from this]; rfl)
    | (rw [this]; rfl)
    | exact this
theorem lookup_mem {x : Str} {c : Addr} : ∀ {cs : List (Str × Addr)}, cs.lookup x = some c → (x, c) ∈ cs := fun h => PySem.mem_of_lookup h
theorem lookup_of_mem {x : Str} {c : Addr} : ∀ {cs : List (Str × Addr)}, (x, c) ∈ cs → (∀ d, (x, d) ∈ cs → d = c) → cs.lookup x = some c
  | [], h, _ => absurd h (by simp)
  | (y, d) :: r, h, u => by
    rw [List.lookup_cons]
    cases e : x == y with
    | true =>
      have e' : x = y := by simpa using e
      subst e'
      simp only
      rw [u d List.mem_cons_self]
    | false =>
      simp only
      refine lookup_of_mem ?_ fun d' hd => u d' (List.mem_cons_of_mem _ hd)
      rcases List.mem_cons.mp h with q | q
      · cases q; simp at e
      · exact q
def blk (X : Cx) (scope : Scope) (NB : List Str) (C : Addr) (s : Shared) (H : Hp) (fp : List Addr) : Cx where
  prog := X.prog
  w := X.w
  K := X.K
  mg := X.mg
  base := X.base
  A := X.A
  N := NB
  s₀ := s
  H₀ := H
  env := compEnvC scope (closes X.env scope.names []) C X.env
  outer := X.stack
  stack := X.stack
  ex := fp
  fn := fun _ => false
  calm := X.calm
  pn := []
  xe := fun _ _ => False
def carry (fr : List (Option Nat)) (σ : St) : St := fr.map fun o => match o with | some j => (σ[j]?).getD none | none => none
def relS (scope sc : Scope) : Scope :=
  { scope with names := scope.names.map fun (n, k) => if (k == .free && sc.kind == .function && sc.names.lookup n == some .cell) then (n, .cell) else (n, k) }
structure BlkOk (sc : Scope) (N : List Str) (scope : Scope) (NB : List Str) (fr : List (Option Nat)) : Prop where
  kind : scope.kind = .function
  cell : ∀ y ∈ scope.names, y.2 ≠ .cell
  names : ∀ x ∈ scope.names, x.2 = .local → scope.names.lookup x.1 = some .local
  free : ∀ x ∈ scope.names, x.2 = .free → sc.names.lookup x.1 = some .cell ∨ sc.names.lookup x.1 = some .free
  len : NB.length = fr.length
  bind : ∀ p ∈ fr.zip NB, ∀ j ∈ p.1, N[j]? = some p.2 ∧ (p.2, NameKind.free) ∈ scope.names ∧ ((relS scope sc).names.lookup p.2 = some .cell ∨ (relS scope sc).names.lookup p.2 = some .free)
instance {sc : Scope} {N : List Str} {scope : Scope} {NB : List Str} {fr : List (Option Nat)} : Decidable (BlkOk sc N scope NB fr) :=
  decidable_of_iff ((scope.kind = .function ∧ ∀ y ∈ scope.names, y.2 ≠ .cell) ∧ ((∀ x ∈ scope.names, x.2 = .local → scope.names.lookup x.1 = some .local) ∧ ∀ x ∈ scope.names, x.2 = .free → sc.names.lookup x.1 = some .cell ∨ sc.names.lookup x.1 = some .free) ∧
    NB.length = fr.length ∧ ∀ p ∈ fr.zip NB, ∀ j ∈ p.1, N[j]? = some p.2 ∧ (p.2, NameKind.free) ∈ scope.names ∧ ((relS scope sc).names.lookup p.2 = some .cell ∨ (relS scope sc).names.lookup p.2 = some .free))
    ⟨fun ⟨⟨a, b⟩, ⟨c, d⟩, e, f⟩ => ⟨a, b, c, d, e, f⟩, fun ⟨a, b, c, d, e, f⟩ => ⟨⟨a, b⟩, ⟨c, d⟩, e, f⟩⟩
theorem lookup_relabel_free {env : Env} {x : Str} : ∀ {names : List (Str × NameKind)} {k : NameKind}, (names.map fun (n, k) => if (k == NameKind.free && env.scope.kind == .function && env.kindOf n == some .cell) then (n, NameKind.cell) else (n, k)).lookup x = some k →
    (k = .cell ∨ k = .free) → (∀ y ∈ names, y.2 ≠ .cell) → (x, NameKind.free) ∈ names
  | [], k, h, _, _ => by simp at h
  | (n, k0) :: r, k, h, hk, hc => by
    have hc' : ∀ y ∈ r, y.2 ≠ .cell := fun y hy => hc y (List.mem_cons_of_mem _ hy)
    by_cases e : (x == n) = true
    · have e' : x = n := by simpa using e
      subst e'
      by_cases hc0 : (k0 == NameKind.free && env.scope.kind == .function && env.kindOf x == some .cell) = true
      · have : k0 = .free := by
          rw [Bool.and_eq_true, Bool.and_eq_true] at hc0
          simpa using hc0.1.1
        rw [this]; exact List.mem_cons_self
      · rw [List.map_cons] at h
        simp only [hc0, if_false, Bool.false_eq_true] at h
        rw [List.lookup_cons, e] at h
        have h' : k0 = k := by simpa using h
        subst h'
        rcases hk with z | z
        · exact absurd z (hc (x, k0) List.mem_cons_self)
        · rw [z]; exact List.mem_cons_self
    · have e' : (x == n) = false := by simpa using e
      rw [List.map_cons] at h
      refine List.mem_cons_of_mem _ (lookup_relabel_free (env := env) (names := r) (k := k) ?_ hk hc')
      by_cases hc0 : (k0 == NameKind.free && env.scope.kind == .function && env.kindOf n == some .cell) = true
      · simp only [hc0, if_true] at h
        rw [List.lookup_cons, e'] at h
        exact h
      · simp only [hc0, if_false, Bool.false_eq_true] at h
        rw [List.lookup_cons, e'] at h
        exact h
section
variable {X : Cx} {pins : List (Addr × Obj)} {σ : St} {H : Hp} {s : Shared} {scope : Scope} {NB : List Str} {fr : List (Option Nat)} {fp : List Addr}
theorem BlkOk.closed (B : BlkOk X.env.scope X.N scope NB fr) (I : Inv X pins σ H s) : ∀ x ∈ scope.names, x.2 = .free → ∃ c, X.env.cells.lookup x.1 = some c := fun x hx hf => I.ok.has x.1 (B.free x hx hf)
theorem BlkOk.look (B : BlkOk X.env.scope X.N scope NB fr) (I : Inv X pins σ H s) {x : Str} (hx : (x, NameKind.free) ∈ scope.names) : ∃ c, X.env.cells.lookup x = some c ∧ (closes X.env scope.names []).lookup x = some c := by
  obtain ⟨c, e⟩ := B.closed I _ hx rfl
  refine ⟨c, e, lookup_of_mem (closes_has (.inl hx) e) fun d hd => ?_⟩
  have := closes_mem (fun _ _ z => absurd z (by simp)) hd
  rw [e] at this
  exact (Option.some.inj this).symm
theorem blk_cells {x : Str} {c : Addr} (h : (closes X.env scope.names []).lookup x = some c) : X.env.cells.lookup x = some c := closes_mem (fun _ _ z => absurd z (by simp)) (lookup_mem h)
theorem blk_start {h1 : Heap} {tk : Nat} {C : Addr} {m : Str → Option Value} (B : BlkOk X.env.scope X.N scope NB fr) (I : Inv X pins σ H s) (hf : ∀ b ∈ fp, FpOk X pins H b ∧ b < s.heap.objs.size) (hC : s.heap.objs.size ≤ C)
    (k : ∀ b o, s.heap.get? b = some o → h1.get? b = some o) (hn : h1.Ns C m) :
    Inv (blk X scope NB C s H fp) [] (carry fr σ) H { s with heap := h1, toks := tk } := by
  have hk : (relabel scope X.env).kind = .function := B.kind
  refine ⟨⟨I.ok.mod, hk, I.ok.glob, I.ok.blt, hC, fun x y c e1 e2 => I.ok.inj x y c (blk_cells e1) (blk_cells e2), fun x hx => ?_, fun x c hfn _ => absurd hfn (by simp [blk]), I.ok.hd, I.ok.frames, .inl rfl, fun b hb => ⟨?_, fun x c e => ?_⟩, I.bs, Nat.le_trans I.ok.bsz I.sz, fun b o e hb => ?_, fun b hb => ?_, I.stack, I.stkFree⟩,
    rfl, I.bare, Un.kept k, ⟨m, hn, fun i x v e1 e2 e3 => ?_⟩, fun x c e => ?_, I.hok.fresh hC, fun x c e => I.freeC x c (blk_cells e), fun p hp => absurd (show p ∈ ([] : List (Addr × Obj)) from hp) (by simp), I.hok.kept k, ?_⟩
  · have hx' : (relabel scope X.env).names.lookup x = some .cell ∨ (relabel scope X.env).names.lookup x = some .free := hx
    have hm : (x, NameKind.free) ∈ scope.names := by
      rcases hx' with z | z
      · exact lookup_relabel_free z (.inl rfl) B.cell
      · exact lookup_relabel_free z (.inr rfl) B.cell
    obtain ⟨c, _, e⟩ := B.look I hm
    exact ⟨c, e⟩
  · exact Nat.ne_of_lt (Nat.lt_of_lt_of_le (hf b hb).2 hC)
  · exact (hf b hb).1.2.2.2.2.1 x c (blk_cells e)
  · rcases (hf b hb).1.2.2.2.1 with z | z
    · exact I.ok.noex b o e z
    · exact absurd (Nat.lt_of_lt_of_le (Heap.lt_size (I.ok.bs b o e).1) z) (Nat.lt_irrefl _)
  · intro z
    rcases List.mem_cons.mp (I.stkSub b z) with q | q
    · exact (hf b hb).1.2.1 q
    · exact (hf b hb).1.2.2.1 q
  · -- a name that is closed over
    obtain ⟨mX, hnX, hlX⟩ := I.loc
    have e2' : ∃ j, fr[i]? = some (some j) ∧ σ[j]? = some (some v) := by
      unfold carry at e2
      rw [List.getElem?_map] at e2
      cases q : fr[i]? with
      | none => rw [q] at e2; cases e2
      | some o =>
        rw [q] at e2
        cases o with
        | none => simp at e2
        | some j =>
          refine ⟨j, rfl, ?_⟩
          have e2 : (σ[j]?).getD none = some v := by simpa using e2
          cases q2 : σ[j]? with
          | none => rw [q2] at e2; cases e2
          | some w => rw [q2] at e2; simp at e2; rw [e2]
    obtain ⟨j, hj, hs⟩ := e2'
    have hz : (some j, x) ∈ fr.zip NB := List.mem_of_getElem? (i := i) (by rw [List.getElem?_zip_eq_some]; exact ⟨hj, e1⟩)
    obtain ⟨hy2, hy3, kd'⟩ := B.bind _ hz j rfl
    have vis : Vis X.env.scope x := by
      rcases B.free _ hy3 rfl with z | z
      · exact .inr (.inl z)
      · exact .inr (.inr z)
    obtain ⟨u, ru, lk⟩ := hlX j x v hy2 hs vis
    refine ⟨u, ru, ?_⟩
    obtain ⟨c, ec1, ec2⟩ := B.look I hy3
    have kd : (compEnvC scope (closes X.env scope.names []) C X.env).kindOf x = some .cell ∨ (compEnvC scope (closes X.env scope.names []) C X.env).kindOf x = some .free := kd'
    refine .inr ⟨kd, c, ec2, ?_⟩
    rcases lk with ⟨q1, q2⟩ | ⟨_, c', q2, q3⟩
    · exfalso
      rcases B.free _ hy3 rfl with t | t
      · rw [show X.env.kindOf x = some .cell from t] at q1; cases q1
      · rw [show X.env.kindOf x = some .free from t] at q1; cases q1
    · rw [ec1] at q2
      cases q2
      obtain ⟨o, ho, hd⟩ := q3
      exact ⟨o, k _ _ ho, hd⟩
  · obtain ⟨v, o, ho, hd⟩ := I.cell x c (blk_cells e)
    exact ⟨v, o, k _ _ ho, hd⟩
  · unfold carry
    rw [List.length_map]
    exact B.len.symm
end
section
variable {prog : Program} {w : World} {A : Around} {E : Value → Shared → Prop} {s : Shared}
theorem comp_turns {elt tg iter : Expr} {ifs : List Expr} {scope : Scope} {pos : Pos} {it acc : Value} {env : Env} {R : Result → Shared → Prop} (J : Nat → Shared → Prop)
    (turn : ∀ n s, J n s → wpAny (model prog w) A (pyNext it) (fun r s1 => match r with
      | none => R (.ok .next) s1
      | some v => wpAny (model prog w) A (letOwnedTupleGo tg it v) (fun _ s2 => wpAny (model prog w) A (assign tg env v) (fun _ s3 =>
          wpAny (model prog w) A (forIn ifs true fun c r => if r = true then do let ok ← isTrue c env (eval c env); pure (ForInStep.yield ok) else pure (ForInStep.yield r)) (fun ok s4 =>
            if ok = true then wpAny (model prog w) A (eval elt env) (fun x s5 => wpAny (model prog w) A (call (.builtin "list.append") [acc, x]) (fun _ s6 => ∃ m, m < n ∧ J m s6) (fun _ _ => False) s5) (fun _ _ => False) s4
            else ∃ m, m < n ∧ J m s4) (fun _ _ => False) s3) (fun _ _ => False) s2) (fun _ _ => False) s1) (fun _ _ => False) s)
    (n : Nat) (h : J n s) : codeAny (model prog w) A (.compLoop (.ListComp elt [⟨tg, iter, ifs, 0⟩] scope pos) 0 it acc env) R s := by
  refine codeAny_loop rfl J (fun n s hJ => ?_) n h
  show wpAny _ A ((compTurn (.ListComp elt [⟨tg, iter, ifs, 0⟩] scope pos) 0 it acc env).onRaise _) _ _ s
  refine wpAny_noted ?_
  rw [compTurn_list]
  refine wpAny_bind (wpAny_standAt (wpAny_bind (wpAny_mono (turn n s hJ) (fun r s1 h1 => ?_) fun _ _ z => z.elim)))
  cases r with
  | none => exact wpAny_pure h1
  | some v =>
    refine wpAny_bind (wpAny_mono h1 (fun _ s2 h2 => wpAny_bind (wpAny_mono h2 (fun _ s3 h3 => wpAny_bind (wpAny_mono h3 (fun ok s4 h4 => ?_) fun _ _ z => z.elim)) fun _ _ z => z.elim)) fun _ _ z => z.elim)
    cases ok with
    | false => exact wpAny_pure ⟨rfl, h4⟩
    | true => exact wpAny_bind (wpAny_bind (wpAny_mono h4 (fun x s5 h5 => wpAny_bind (wpAny_mono h5 (fun _ s6 h6 => wpAny_pure (wpAny_pure ⟨rfl, h6⟩)) fun _ _ z => z.elim)) fun _ _ z => z.elim))
end
def Wk (σ σ2 : St) : Prop := σ2.length = σ.length ∧ ∀ (i : Nat) v, σ[i]? = some (some v) → σ2[i]? = some (some v)
def tTurns (fr : List (Option Nat)) (g : TG) (tc : TT) (te : TE) (D : Addr) (J : It) (σ : St) (H1 : Hp) (Q : VK) : Prop :=
  ∃ W : Nat → Nat → List V → Hp → Prop, (∃ m, W 0 m [] (upd H1 D (.lst []))) ∧ ∀ i m ys H, W i m ys H → H D = some (.lst ys) ∧
    ((J.stop i H ∧ Q (.ref D) H) ∨ (J.go i H ∧ ys.length < sizeLine ∧ ∃ N : List V → Hp → Prop, (∀ ys' H', N ys' H' → ∃ m', m' < m ∧ W (i + 1) m' ys' H') ∧
      ∀ x H', J.yld i H x H' → g x (carry fr σ) H' fun σ2 H2 => Wk (carry fr σ) σ2 ∧ tc σ2 H2 fun b H3 => if b = true then te σ2 H3 fun y H4 => H4 D = some (.lst ys) ∧ N (ys ++ [y]) (upd H4 D (.lst (ys ++ [y]))) else N ys H3))
def tComp (fr : List (Option Nat)) (wi : TI) (g : TG) (tc : TT) (te : TE) : TE := fun σ H Q => wi σ H fun J H1 => ∀ D, H1 D = none → tTurns fr g tc te D J σ H1 Q
def tYes : TT := fun _ H Q => Q true H
inductive PIfs (Y : Cx) : List Expr → TT → Prop where
  | nil : PIfs Y [] tYes
  | one {c : Expr} {t : TT} : PT Y c t → PIfs Y [c] t
section
variable {X : Cx} {scope : Scope} {NB : List Str} {fr : List (Option Nat)} {elt tg iter : Expr} {ifs : List Expr} {pos : Pos} {wi : TI} {g : TG} {tc : TT} {te : TE}
theorem Inv.lost {pins : List (Addr × Obj)} {σ : St} {H : Hp} {s : Shared} {h' : Heap} {C : Addr} (I : Inv X pins σ H s) (hs : Heap.SameBut C s.heap h') (f : FpOk X pins H C) : Inv X pins σ H { s with heap := h' } :=
  I.turned (t' := s.toks) (fun b o hb e => (hs.2 b hb).trans e) f.1 f.2.1 f.2.2.2.1 f.2.2.2.2.1 f.2.2.2.2.2
theorem blk_run (hcalm : X.calm = true) (B : BlkOk X.env.scope X.N scope NB fr) (hg : ∀ C s H fp, PG (blk X scope NB C s H fp) tg g) (hif : ∀ C s H fp, PIfs (blk X scope NB C s H fp) ifs tc) (he : ∀ C s H fp, PE (blk X scope NB C s H fp) elt te)
    {pins : List (Addr × Obj)} {σ : St} {Q : VK} {E : Value → Shared → Prop} {itv : Value} {s2 : Shared} (h2 : PIE X pins σ tg (fun J H1 => ∀ D, H1 D = none → tTurns fr g tc te D J σ H1 Q) itv s2)
    {RR : Value → Addr → Result → Shared → Prop}
    (hRR : ∀ D C H' s', Inv X pins σ H' s' → FpOk X pins H' C → (∃ m, s'.heap.Ns C m) → Q (.ref D) H' → RR (.ref D) C (.ok .next) s') :
    wpAny (model X.prog X.w) X.A (newList []) (fun acc s3 => wpAny (model X.prog X.w) X.A (newFunctionEnv scope X.env.globals (closes X.env scope.names []) [] X.env.qual none .none (some X.env)) (fun cenv s4 =>
      codeAny (model X.prog X.w) X.A (.compStart (.ListComp elt [⟨tg, iter, ifs, 0⟩] scope pos) 0 itv acc { cenv with scope := relabel scope X.env }) (RR acc cenv.locals) s4) E s3) E s2 := by
  obtain ⟨it, fp, tn, J, H2, rfl, I2, T, st2, f2, q2⟩ := h2
  refine wpAny_newObj_type ?_
  have hD : H2 s2.heap.objs.size = none := I2.hok.fresh (Nat.le_refl _)
  have I3 : Inv X pins σ (upd H2 s2.heap.objs.size (.lst [])) { s2 with heap := s2.heap.push { cls := .type "list", data := .seq ([] : List Value).toArray } } :=
    I2.laid (t' := s2.toks) (fun b u e => Heap.get?_push_of_some _ e) (Nat.le_refl _) ⟨by show 0 ≤ sizeLine; decide, [], 0, .nil, Heap.get?_push_size _ rfl⟩
  obtain ⟨W, ⟨m0, w0⟩, turn⟩ := q2 s2.heap.objs.size hD
  generalize hDe : s2.heap.objs.size = D at *
  generalize hH3 : upd H2 D (.lst []) = H3 at *
  generalize hg3 : s2.heap.push { cls := .type "list", data := .seq ([] : List Value).toArray } = g3 at *
  have up3 : ∀ b o, s2.heap.get? b = some o → g3.get? b = some o := fun b o e => by rw [← hg3]; exact Heap.get?_push_of_some _ e
  have sz3 : g3.objs.size = D + 1 := by rw [← hg3, Heap.size_push, hDe]
  have st3 : tn 0 g3 := T.keep _ _ _ st2 fun b _ o e => up3 b o e
  have fl : ∀ b ∈ fp, b < g3.objs.size := fun b hb => by
    obtain ⟨o, e, _⟩ := T.obj _ _ st3 b hb
    exact Heap.lt_size e
  have nD : ∀ b ∈ fp, b ≠ D := fun b hb => by
    obtain ⟨o, e, _⟩ := T.obj _ _ st2 b hb
    have := Heap.lt_size e
    rw [hDe] at this
    exact Nat.ne_of_lt this
  have f3 : ∀ b ∈ fp, FpOk X pins H3 b := fun b hb => ⟨by rw [← hH3, upd_ne (nD b hb)]; exact (f2 b hb).1, (f2 b hb).2⟩
  refine wpAny_newFunctionEnv B.cell (by intro y hy; simp at hy) (fun h1 hn1 hs1 => ?_) B.kind
  dsimp only at hn1 hs1 ⊢
  have up4 : ∀ b o, g3.get? b = some o → h1.get? b = some o := fun b o e => hs1.extBut b o (Nat.ne_of_lt (Heap.lt_size e)) (Heap.get?_push_of_some _ e)
  have st4 : tn 0 h1 := T.keep _ _ _ st3 fun b _ o e => up4 b o e
  have J0 : Inv (blk X scope NB g3.objs.size { s2 with heap := g3 } H3 fp) [] (carry fr σ) H3 { s2 with heap := h1, toks := s2.toks + ([] : List (Str × Value)).length } :=
    blk_start (s := { s2 with heap := g3 }) (fp := fp) B I3 (fun b hb => ⟨f3 b hb, fl b hb⟩) (Nat.le_refl _) up4 hn1
  have fpY : ∀ {H' : Hp}, (∀ b ∈ fp, H' b = none) → ∀ b ∈ fp, FpOk (blk X scope NB g3.objs.size { s2 with heap := g3 } H3 fp) [] H' b := fun hn b hb =>
    ⟨hn b hb, Nat.ne_of_lt (fl b hb), J0.ok.exfs b hb, .inl hb, fun x c e => (f3 b hb).2.2.2.2.1 x c (blk_cells e), fun p hp => absurd (show p ∈ ([] : List (Addr × Obj)) from hp) (by simp)⟩
  have back : ∀ {σ' : St} {H' : Hp} {s' : Shared}, Inv (blk X scope NB g3.objs.size { s2 with heap := g3 } H3 fp) [] σ' H' s' → Inv X pins σ H' s' ∧ FpOk X pins H' g3.objs.size ∧ ∃ m, s'.heap.Ns g3.objs.size m := fun {σ' H' s'} K => by
    refine ⟨I3.call' (ch := fp) K.os K.base K.hok K.bare fun b hb => ⟨(f3 b hb).2.2.2.1, (f3 b hb).2.1, (f3 b hb).2.2.2.2.1, (f3 b hb).2.2.2.2.2⟩, ?_, ?_⟩
    · exact I3.fpOk (Nat.le_refl _) K.free
    · obtain ⟨m, hm, _⟩ := K.loc
      exact ⟨m, hm⟩
  have loop : ∀ s3 : Shared, s3 = { s2 with heap := h1, toks := s2.toks + ([] : List (Str × Value)).length } →
      codeAny (model X.prog X.w) X.A (.compLoop (.ListComp elt [⟨tg, iter, ifs, 0⟩] scope pos) 0 (.ref it) (.ref D) (compEnvC scope (closes X.env scope.names []) g3.objs.size X.env)) (RR (.ref D) g3.objs.size) s3 := by
    rintro s3 rfl
    refine comp_turns (fun n s' => ∃ i ys H', Inv (blk X scope NB g3.objs.size { s2 with heap := g3 } H3 fp) [] (carry fr σ) H' s' ∧ tn i s'.heap ∧ (∀ b ∈ fp, H' b = none) ∧ W i n ys H') ?_ m0 ⟨0, [], H3, J0, st4, fun b hb => (f3 b hb).1, w0⟩
    rintro n s3 ⟨i, ys, H4, J4, st, fr4, w4⟩
    obtain ⟨hl4, alt⟩ := turn i n ys H4 w4
    rcases alt with ⟨stop, qn⟩ | ⟨go, hlen, N, hN, step⟩
    · refine thn (T.done (blk X scope NB g3.objs.size { s2 with heap := g3 } H3 fp) rfl rfl rfl hcalm i [] s3 (carry fr σ) H4 (fun _ _ => False) J4 (fpY fr4) st stop) fun r s5 ⟨hr, J5⟩ => ?_
      subst hr
      obtain ⟨K1, K2, K3⟩ := back J5
      exact hRR D g3.objs.size H4 s5 K1 K2 K3 qn
    · refine thn (T.item (blk X scope NB g3.objs.size { s2 with heap := g3 } H3 fp) rfl rfl rfl hcalm i [] s3 (carry fr σ) H4 (fun _ _ => False) J4 (fpY fr4) st go) fun r s5 ⟨u, hr, h5⟩ => ?_
      subst hr
      refine thn h5 fun _ s6 ⟨x, H6, J6, r6, y6, st6, fr6⟩ => ?_
      have J6' := J6.pinned (fpY fr6) (T.obj _ _ st6)
      refine thn (hg _ _ _ _ _ s6 (carry fr σ) H6 x u _ J6' r6 (step x H6 y6)) fun _ s7 ⟨σ7, H7, J7, wk, q7⟩ => ?_
      have again : ∀ {ys' : List V} {H8 : Hp} {s8 : Shared}, Inv (blk X scope NB g3.objs.size { s2 with heap := g3 } H3 fp) ([] ++ pinsAt fp s6.heap) σ7 H8 s8 → N ys' H8 →
          ∃ m, m < n ∧ ∃ i ys H', Inv (blk X scope NB g3.objs.size { s2 with heap := g3 } H3 fp) [] (carry fr σ) H' s8 ∧ tn i s8.heap ∧ (∀ b ∈ fp, H' b = none) ∧ W i m ys H' := fun {ys' H8 s8} J8 n8 => by
        obtain ⟨m', hm, w8⟩ := hN ys' H8 n8
        refine ⟨m', hm, i + 1, ys', H8, J8.unpinned.weak wk.1.symm wk.2, T.keep _ _ _ st6 fun b hb o e => (J8.pin (b, o) (List.mem_append_right _ (List.mem_append_right _ (mem_pinsAt hb e)))).1, fun b hb => ?_, w8⟩
        obtain ⟨o, e, d⟩ := T.obj _ _ st6 b hb
        exact (J8.pin (b, o) (List.mem_append_right _ (List.mem_append_right _ (mem_pinsAt hb e)))).2.1
      have tests : wpAny (model X.prog X.w) X.A (forIn ifs true fun c r => if r = true then do let ok ← isTrue c (compEnvC scope (closes X.env scope.names []) g3.objs.size X.env) (eval c (compEnvC scope (closes X.env scope.names []) g3.objs.size X.env)); pure (ForInStep.yield ok) else pure (ForInStep.yield r))
          (TP (blk X scope NB g3.objs.size { s2 with heap := g3 } H3 fp) ([] ++ pinsAt fp s6.heap) σ7 fun b H3' => if b = true then te σ7 H3' fun y H4' => H4' D = some (.lst ys) ∧ N (ys ++ [y]) (upd H4' D (.lst (ys ++ [y]))) else N ys H3') (fun _ _ => False) s7 := by
        generalize hif g3.objs.size { s2 with heap := g3 } H3 fp = PF
        cases PF with
        | nil => exact wpAny_tests_nil ⟨H7, J7, q7⟩
        | one hpt => exact wpAny_tests_one (hpt _ s7 σ7 H7 _ J7 q7)
      refine thn tests fun ok s8 ⟨H8, J8, q8⟩ => ?_
      cases ok with
      | false => exact again J8 q8
      | true =>
        rw [if_pos rfl]
        refine thn (he _ _ _ _ _ s8 σ7 H8 _ J8 q8) fun y s9 ⟨yv, H9, J9, r9, hD9, n9⟩ => ?_
        refine thn (mt_append (X := blk X scope NB g3.objs.size { s2 with heap := g3 } H3 fp) _ s9 σ7 H9 (.ref D) [yv] (.ref D) [y] (fun v H' => v = .non ∧ N (ys ++ [yv]) H') J9 rfl (.cons r9 .nil) ⟨D, ys, yv, rfl, rfl, hD9, hlen, rfl, n9⟩) fun _ s10 ⟨_, H10, J10, _, _, n10⟩ => ?_
        exact again J10 n10
  exact codeAny_compStart_list (loop _ rfl) (T.self _ 0 _ _ _ st4 (loop _ rfl))
theorem pe_comp {sc : Scope} {N : List Str} (hcalm : X.calm = true) (B' : BlkOk sc N scope NB fr) (hi : PI X tg iter wi) (hg : ∀ C s H fp, PG (blk X scope NB C s H fp) tg g) (hif : ∀ C s H fp, PIfs (blk X scope NB C s H fp) ifs tc) (he : ∀ C s H fp, PE (blk X scope NB C s H fp) elt te)
    (hs : ∀ x, foldedSetIterable iter X.env x = pure x := by intro _; rfl) (hsc : X.env.scope = sc := by rfl) (hNN : X.N = N := by rfl) : PE X (.ListComp elt [⟨tg, iter, ifs, 0⟩] scope pos) (tComp fr wi g tc te) := by
  have B : BlkOk X.env.scope X.N scope NB fr := by rw [hsc, hNN]; exact B'
  intro pins s σ H Q I h
  rw [eval_ListComp]
  refine wpAny_comprehension_free (use := none) rfl hs (closureFor_closes (B.closed I)) B.kind B.names (thn (hi pins s σ H _ I h) fun v s1 h1 => thn h1 fun itv s2 h2 => ?_)
  refine blk_run hcalm B hg hif he h2 (RR := fun acc C => compPost (model X.prog X.w) X.A X.xe none (EP X pins σ Q) acc C) fun D C H' s' I' f ⟨m, hm⟩ q => ?_
  exact ⟨m, hm, fun h'' hs'' => ⟨.ref D, H', I'.lost hs'' f, rfl, q⟩⟩
theorem ps_comp {sc : Scope} {N : List Str} {i : Nat} {x : Str} {px spos : Pos} (hN : X.N.Nodup) (hix : X.N[i]? = some x) (hx : X.env.scope.names.lookup x = some .local) (hcalm : X.calm = true) (B' : BlkOk sc N scope NB fr) (hi : PI X tg iter wi)
    (hg : ∀ C s H fp, PG (blk X scope NB C s H fp) tg g) (hif : ∀ C s H fp, PIfs (blk X scope NB C s H fp) ifs tc) (he : ∀ C s H fp, PE (blk X scope NB C s H fp) elt te)
    (hsw : swapsWith (.ListComp elt [⟨tg, iter, ifs, 0⟩] scope pos) (some (.Name x px)) spos.line X.env = pure true := by rfl)
    (hs : ∀ x, foldedSetIterable iter X.env x = pure x := by intro _; rfl) (hsc : X.env.scope = sc := by rfl) (hNN : X.N = N := by rfl) : PS X (.Assign [.Name x px] (.ListComp elt [⟨tg, iter, ifs, 0⟩] scope pos) spos) (tAsg (tComp fr wi g tc te) (gName i)) := by
  have B : BlkOk X.env.scope X.N scope NB fr := by rw [hsc, hNN]; exact B'
  intro pins s σ H D I h
  rw [exec_Assign_Name_used _ _ _ _ hsw]
  refine wpAny_bind (wpAny_standAt (wpAny_bind ?_))
  show wpAny _ _ (do let _ ← comprehension (.ListComp elt [⟨tg, iter, ifs, 0⟩] scope pos) scope X.env _ (newList []) false (eval iter X.env) (some (assign (.Name x px) X.env))) _ _ s
  refine wpAny_bind (wpAny_mono (wpAny_comprehension_free (use := some (assign (.Name x px) X.env)) (Q := fun _ s' => SP X pins D .next s') rfl hs (closureFor_closes (B.closed I)) B.kind B.names
    (thn (hi pins s σ H _ I h) fun v s1 h1 => thn h1 fun itv s2 h2 => ?_)) (fun _ s' hq => wpAny_pure (wpAny_pure hq)) fun _ _ z => z)
  refine blk_run hcalm B hg hif he h2 (RR := fun acc C => compPost (model X.prog X.w) X.A X.xe (some (assign (.Name x px) X.env)) (fun _ s' => SP X pins D .next s') acc C) fun Dl C H' s' I' f ⟨m, hm⟩ q => ?_
  show wpAny _ _ (assign (.Name x px) X.env (.ref Dl)) _ _ _
  refine wpAny_assign_Name (store_ok2 I' hN hix (.inl hx) (v := .ref Dl) rfl (fun s3 I3 ⟨a, hs3, ha⟩ => ?_) (.inr hx))
  have ne : C ≠ a := by
    rcases ha with e | e
    · rw [e]; exact f.2.1
    · exact fun z => f.2.2.2.2.1 x a e z.symm
  exact ⟨m, hm.sameBut hs3 ne, fun h'' hs'' => ⟨_, H', I3.lost hs'' f, q⟩⟩
end
end L2
set_option Elab.async false
set_option linter.all false
set_option maxRecDepth 100000
set_option maxHeartbeats 4000000
namespace L2
open PySem PySem.Spec PyProof.Rows
structure Cal (P : Program) (w : World) (K : PySem.W.Frag) (mg : Str → Option Value) (base : Heap) (k : Nat) (x : Str) (ps : List Str) (sp : Sp) : Prop where
  ex : ∃ f fd, FnOk P w K mg base CX0 k f fd ps sp ∧ mg x = some (.ref f) ∧ PySem.W.keepIn K (.ref f) = true ∧ Binds K fd ps []
section
variable {X : Cx} {k : Nat} {x : Str} {ps : List Str} {sp : Sp} {p pos : Pos} {e : Expr} {es : List Expr} {t : TA}
theorem pe_cal (C : Cal X.prog X.w X.K X.mg X.base k x ps sp) (hr : Room k X.A) (hg : Gl X x) (ha : PA X (e :: es) t) (hdb : (x == ("__debug__" : Str)) = false := by decide)
    (he : starEach (e :: es) X.env = (false, eval e X.env) :: starEach es X.env := by rfl) (hpl : (backTo pos (starEach es X.env)).any (·.1) = false := by rfl) : PE X (.Call (.Name x p) (e :: es) [] pos) (tCall sp [] E0 t) := by
  obtain ⟨f, fd, G, m, kk, b⟩ := C.ex
  exact pe_call G hr hg m kk b .nil pass0 ha hdb he hpl
end
structure Txt (BN : List Str) (mg : Str → Option Value) : Prop where
  nb : ∀ x ∈ BN, mg x = none
def CDivP (_ j : Int) : Prop := 0 < j ∧ Bits 9000 j
section
variable {X : Cx}
theorem op_fdivP : OpR X (binaryOp .FloorDiv) (rI CDivP fun i j => .int (i / j)) := opI fun i j _ _ _ _ _ hc q => by
  have h1 : (0 : Int) < j := hc.1
  exact floordiv_int (by omega) (by rw [Int.fdiv_eq_ediv_of_nonneg i (by omega)]; exact q) (.inl (PyProof.noPylong_of_log2 (hc.2.log2 (by decide))))
def clsV : V → Option Value
  | .ty n => some (.type n)
  | .ref C => some (.ref C)
  | _ => none
theorem clsV_rel {c : V} {u cv : Value} (h : clsV c = some cv) (r : RelV c u) : u = cv := by
  cases c with
  | ty n => cases h; exact r
  | ref C => cases h; exact r
  | _ => cases h
theorem call_isi : CallR X (.builtin "isinstance") (fun xs H Q => ∃ x c t cv b, xs = [x, c] ∧ clsV c = some cv ∧ TyOf X.K H x t ∧ PySem.W.kitOne X.K t cv = some b ∧ Q (.bl b) H) := by
  intro pins s σ H xs us Q I r h
  obtain ⟨x, c, t, cv, b, rfl, hc, ty, e, q⟩ := h
  obtain ⟨u, u', rfl, r1, r2⟩ := vals2 r
  obtain rfl := clsV_rel hc r2
  exact isinst_ok I r1 ty e fun tk => ⟨.bl b, H, I.tok tk, rfl, q⟩
theorem pe_ty {BN : List Str} {pos : Pos} (T : Txt BN X.mg) (n : String) (hg : Gl X (Str.ofString n) := by rfl) (hn : Str.ofString n ∈ BN := by decide) (hv : bootBuiltins (Str.ofString n) = some (.type n) := by decide +kernel)
    (h1 : Str.ofString n ≠ "__name__" := by decide) (h2 : (Str.ofString n == ("__debug__" : Str)) = false := by decide) : PE X (.Name (Str.ofString n) pos) (tC (.ty n)) := pe_bltn hg (T.nb _ hn) hv rfl h1 h2
theorem call_sumI (hc : X.calm = true) : CallR X (.builtin "sum") (fun xs H Q => ∃ (a : Addr) (ns : List Int), xs = [.ref a] ∧ SqL X.K H a (ns.map V.int) ∧ Q (.int ns.sum) H) := by
  intro pins s σ H xs us Q I r h
  obtain ⟨a, ns, rfl, hs, q⟩ := h
  obtain ⟨u, rfl, r1⟩ := vals1 r
  obtain rfl : u = Value.ref a := r1
  obtain ⟨its, rv, p, hz⟩ := I.list hs
  have hi := intsAre_of rv
  obtain ⟨m, F⟩ := I.fr
  have N : News X.base X.env.locals s.heap [] := fun q hq => absurd hq (by simp)
  obtain ⟨zs, hx⟩ := hi.allInts.items
  have hl' : s.heap.IsList a (intItems zs) := hx ▸ p.isList
  refine sum_intListG (I.ok.hd hc) hl' fun h' tk t' hk => ?_
  have e1 : ns = zs.toList.map (·.1) := by
    rw [← nums_intItems, ← hx]
    exact (show numsOf its.toArray.toList = ns from hi.numsOf).symm
  have e2 : preSum (numAt zs) zs.size = ns.sum := by
    rw [preSum_eq, List.take_of_length_le (by simp), e1]
  rw [e2]
  exact ⟨.int ns.sum, H, I.kept hk, ⟨_, rfl⟩, q⟩
theorem bools_of {bs : List Bool} : ∀ {us : List Value}, Vals (bs.map V.bl) us → LSm.BoolsAre us bs := by
  induction bs with
  | nil => intro us r; cases r; exact .nil
  | cons b bs ih =>
    intro us r
    rw [List.map_cons] at r
    cases r with
    | cons r1 r2 =>
      obtain rfl := (show _ = Value.bool b from r1)
      exact .cons b (ih r2)
theorem call_allB (hc : X.calm = true) : CallR X (.builtin "all") (fun xs H Q => ∃ (a : Addr) (bs : List Bool), xs = [.ref a] ∧ SqL X.K H a (bs.map V.bl) ∧ Q (.bl (bs.all id)) H) := by
  intro pins s σ H xs us Q I r h
  obtain ⟨a, bs, rfl, hs, q⟩ := h
  obtain ⟨u, rfl, r1⟩ := vals1 r
  obtain rfl : u = Value.ref a := r1
  obtain ⟨its, rv, p, hz⟩ := I.list hs
  have hb := bools_of rv
  have hlt : a < s.heap.objs.size := by obtain ⟨_, e, _⟩ := p.isList; exact Heap.lt_size e
  refine call_all_walk (wpAny_pyIter_list p.isList ?_)
  refine ⟨s.heap.objs.size, [s.heap.objs.size, a], [s.heap.objs.size], its.toArray.size, _, _, fun i => (bs[i]?).getD true, rfl, Walks.list (A := X.A.in1) (I.ok.hd hc) _ a (Nat.ne_of_lt hlt) its.toArray,
    ⟨⟨_, Heap.get?_push_size _ rfl, rfl, rfl⟩, p.isList.push _⟩, fun i v s' Q' E' hP hQ => ?_, fun h' tk hk => ?_⟩
  · obtain ⟨b, e, rfl⟩ := hb.get i v (by simpa using hP)
    simp only [e, Option.getD_some] at hQ
    exact wpAny_truthy_bool hQ
  · have e : ((List.range its.toArray.size).all fun i => (bs[i]?).getD true) = bs.all id := by
      rw [List.size_toArray, hb.length]; exact LSm.range_all bs
    rw [e]
    exact ⟨.bl (bs.all id), H, I.kept (LSm.kept_iter hk), rfl, q⟩
theorem call_minL (hc : X.calm = true) : CallR X (.builtin "min") (fun xs H Q => ∃ (a : Addr) (ns : List Int), xs = [.ref a] ∧ SqL X.K H a (ns.map V.int) ∧ 0 < ns.length ∧ ∀ m, m ∈ ns → (∀ b ∈ ns, m ≤ b) → Q (.int m) H) := by
  intro pins s σ H xs us Q I r h
  obtain ⟨a, ns, rfl, hs, hn, q⟩ := h
  obtain ⟨u, rfl, r1⟩ := vals1 r
  obtain rfl : u = Value.ref a := r1
  obtain ⟨its, rv, p, hz⟩ := I.list hs
  obtain ⟨zs, e⟩ := (intsAre_of rv).allInts.items
  have hns : ns = zs.toList.map (·.1) := by rw [← (intsAre_of rv).numsOf, ← nums_intItems, ← e]
  have hsz : 0 < zs.size := by have h3 := hn; rw [hns, List.length_map, Array.length_toList] at h3; exact h3
  have hl := p.isList
  rw [e] at hl
  refine min_intList (I.ok.hd hc) hl hsz fun v h' tk hv hk => ?_
  obtain ⟨t, rfl⟩ := intItems_at hv
  obtain ⟨h1, h2⟩ := argBest_lt (numAt zs) (zs.size - 1)
  have e3 : ∀ k, k < zs.size → numAt zs k ∈ ns := fun k hk => by
    rw [hns]
    refine List.mem_map.mpr ⟨zs[k], by simp, ?_⟩
    simp [numAt, hk]
  have e4 : ∀ b ∈ ns, ∃ k, k < zs.size ∧ numAt zs k = b := fun b hb => by
    rw [hns] at hb
    obtain ⟨y, hy, rfl⟩ := List.mem_map.mp hb
    obtain ⟨k, hk, hk2⟩ := List.getElem_of_mem hy
    have hk' : k < zs.size := by simpa using hk
    refine ⟨k, hk', ?_⟩
    simp [numAt, hk', ← hk2]
  refine ⟨.int (numAt zs (argBest (fun i j => decide (numAt zs i < numAt zs j)) (zs.size - 1))), H, I.kept hk, ⟨_, rfl⟩, q _ (e3 _ (by omega)) fun b hb => ?_⟩
  obtain ⟨k, hk1, rfl⟩ := e4 b hb
  exact h2 k (by omega)
end
theorem Same.new {H : Hp} {p : Addr} (h : H p = none) (o : HO) : Same H (upd H p o) := fun b u q => by rw [upd_ne (ne_of_none q h)]; exact q
theorem Same.seqT {K : PySem.W.Frag} {H H' : Hp} {a : Addr} {xs : List V} (e : Same H H') (h : SqT K H a xs) : SqT K H' a xs := by
  rcases h with (h | ⟨o, h⟩) | h
  · exact .inl (.inl (e _ _ h))
  · exact .inl (.inr ⟨o, e _ _ h⟩)
  · exact .inr h
theorem Same.seqB {K : PySem.W.Frag} {b : Bool} {H H' : Hp} {a : Addr} {xs : List V} (e : Same H H') (h : SqB K b H a xs) : SqB K b H' a xs := by
  cases b
  · exact e.seq h
  · exact e.seqT h
section
variable {X : Cx} {K : PySem.W.Frag} {pos : Pos}
theorem pg_tupK {es : List Expr} {k : Nat} {t : TGs} {n : Nat} (hK : X.K = K) (hc : X.calm = true) (h : PGs X es t)
    (hn : (assignEach es X.env).length = n := by rfl) (hst : (assignEach es X.env).findIdx? (·.1) = none := by rfl) : PG X (.Tuple es k pos) (gTup K n t) := by subst hK; exact pg_tup hc h hn hst
theorem ix_listK (hK : X.K = K) : IxR X (rIxL K) := by subst hK; exact ix_list
theorem ix_tupK (hK : X.K = K) : IxR X (rIxT K) := by subst hK; exact ix_tup
theorem sl_listK (hK : X.K = K) : SlR X (rSlL K) := by subst hK; exact sl_list
theorem sl_tupK (hK : X.K = K) : SlR X (rSlT K) := by subst hK; exact sl_tup
theorem op_catTK (hK : X.K = K) : OpR X (binaryOp .Add) (rCatT K) := by subst hK; exact op_catT
theorem call_lenK (hK : X.K = K) : CallR X (.builtin "len") (fun xs H Q => ∃ p ys, xs = [.ref p] ∧ (SqL K H p ys ∨ SqT K H p ys) ∧ Q (.int ys.length) H) := by subst hK; exact call_len_seq
theorem call_listK (hK : X.K = K) : CallR X (.type "list") (fun xs H Q => ∃ p ys, xs = [.ref p] ∧ (SqL K H p ys ∨ SqT K H p ys) ∧ ∀ l, H l = none → Q (.ref l) (upd H l (.lst ys))) := by subst hK; exact call_list_of
theorem call_tupleK (hK : X.K = K) : CallR X (.type "tuple") (fun xs H Q => ∃ p ys, xs = [.ref p] ∧ ((SqL K H p ys ∧ ∀ l, H l = none → Q (.ref l) (upd H l (.tup ys))) ∨ (SqT K H p ys ∧ Q (.ref p) H))) := by subst hK; exact call_tuple_of
theorem call_isiK (hK : X.K = K) : CallR X (.builtin "isinstance") (fun xs H Q => ∃ x c t cv b, xs = [x, c] ∧ clsV c = some cv ∧ TyOf K H x t ∧ PySem.W.kitOne K t cv = some b ∧ Q (.bl b) H) := by subst hK; exact call_isi
end
theorem comp_seq {J : It} {n : Nat} {fr : List (Option Nat)} {g : TG} {tc : TT} {te : TE} {D : Addr} {σ : St} {H1 : Hp} {Q : VK} (Pv : Nat → List V → Hp → Prop) (h0 : Pv 0 [] (upd H1 D (.lst [])))
    (hD : ∀ i ys H, i ≤ n → Pv i ys H → H D = some (.lst ys) ∧ ys.length ≤ i) (hgo : ∀ i ys H, i < n → Pv i ys H → J.go i H) (hstop : ∀ ys H, Pv n ys H → J.stop n H) (hn : n ≤ sizeLine)
    (hs : ∀ i ys H x H', i < n → Pv i ys H → J.yld i H x H' → g x (carry fr σ) H' fun σ2 H2 => Wk (carry fr σ) σ2 ∧ tc σ2 H2 fun b H3 => if b = true then te σ2 H3 fun y H4 => H4 D = some (.lst ys) ∧ Pv (i + 1) (ys ++ [y]) (upd H4 D (.lst (ys ++ [y]))) else Pv (i + 1) ys H3)
    (hd : ∀ ys H, Pv n ys H → Q (.ref D) H) : tTurns fr g tc te D J σ H1 Q := by
  refine ⟨fun i m ys H => m = n - i ∧ i ≤ n ∧ Pv i ys H, ⟨n, by simp, Nat.zero_le _, h0⟩, ?_⟩
  rintro i m ys H ⟨rfl, hi, p⟩
  obtain ⟨q, hl⟩ := hD i ys H hi p
  refine ⟨q, ?_⟩
  by_cases hlt : i < n
  · exact .inr ⟨hgo i ys H hlt p, by omega, Pv (i + 1), fun ys' H' p' => ⟨n - (i + 1), by omega, rfl, hlt, p'⟩, fun x H' y => hs i ys H x H' hlt p y⟩
  · have e : i = n := by omega
    subst e
    exact .inl ⟨hstop ys H p, hd ys H p⟩
theorem comp_list {K : PySem.W.Frag} {a : Addr} {xs : List V} {fr : List (Option Nat)} {g : TG} {tc : TT} {te : TE} {D : Addr} {σ : St} {H1 : Hp} {Q : VK} (Pv : Nat → List V → Hp → Prop) (h0 : Pv 0 [] (upd H1 D (.lst [])))
    (hD : ∀ i ys H, i ≤ xs.length → Pv i ys H → H D = some (.lst ys) ∧ ys.length ≤ i) (hl : ∀ i ys H, i ≤ xs.length → Pv i ys H → SqL K H a xs) (hn : xs.length ≤ sizeLine)
    (hs : ∀ i x ys H, xs[i]? = some x → Pv i ys H → g x (carry fr σ) H fun σ2 H2 => Wk (carry fr σ) σ2 ∧ tc σ2 H2 fun b H3 => if b = true then te σ2 H3 fun y H4 => H4 D = some (.lst ys) ∧ Pv (i + 1) (ys ++ [y]) (upd H4 D (.lst (ys ++ [y]))) else Pv (i + 1) ys H3)
    (hd : ∀ ys H, Pv xs.length ys H → Q (.ref D) H) : tTurns fr g tc te D (Itl K a) σ H1 Q := by
  refine comp_seq (n := xs.length) Pv h0 hD (fun i ys H hi p => ⟨xs, xs[i], hl i ys H (Nat.le_of_lt hi) p, by simp [hi]⟩) (fun ys H p => ⟨xs, hl _ ys H (Nat.le_refl _) p, Nat.le_refl _⟩) hn (fun i ys H x H' hi p y => ?_) hd
  obtain ⟨e, y⟩ := y
  subst e
  exact hs i x ys _ (y xs (hl i ys _ (Nat.le_of_lt hi) p)) p
theorem comp_tup {K : PySem.W.Frag} {a : Addr} {xs : List V} {fr : List (Option Nat)} {g : TG} {tc : TT} {te : TE} {D : Addr} {σ : St} {H1 : Hp} {Q : VK} (Pv : Nat → List V → Hp → Prop) (h0 : Pv 0 [] (upd H1 D (.lst [])))
    (hD : ∀ i ys H, i ≤ xs.length → Pv i ys H → H D = some (.lst ys) ∧ ys.length ≤ i) (hl : ∀ i ys H, i ≤ xs.length → Pv i ys H → SqT K H a xs) (hn : xs.length ≤ sizeLine)
    (hs : ∀ i x ys H, xs[i]? = some x → Pv i ys H → g x (carry fr σ) H fun σ2 H2 => Wk (carry fr σ) σ2 ∧ tc σ2 H2 fun b H3 => if b = true then te σ2 H3 fun y H4 => H4 D = some (.lst ys) ∧ Pv (i + 1) (ys ++ [y]) (upd H4 D (.lst (ys ++ [y]))) else Pv (i + 1) ys H3)
    (hd : ∀ ys H, Pv xs.length ys H → Q (.ref D) H) : tTurns fr g tc te D (Itt K a) σ H1 Q := by
  refine comp_seq (n := xs.length) Pv h0 hD (fun i ys H hi p => ⟨xs, xs[i], hl i ys H (Nat.le_of_lt hi) p, by simp [hi]⟩) (fun ys H p => ⟨xs, hl _ ys H (Nat.le_refl _) p, Nat.le_refl _⟩) hn (fun i ys H x H' hi p y => ?_) hd
  obtain ⟨e, y⟩ := y
  subst e
  exact hs i x ys _ (y xs (hl i ys _ (Nat.le_of_lt hi) p)) p
theorem comp_zip {K : PySem.W.Frag} {b1 b2 : Bool} {a1 a2 : Addr} {us vs : List V} {fr : List (Option Nat)} {g : TG} {tc : TT} {te : TE} {D : Addr} {σ : St} {H1 : Hp} {Q : VK} (Pv : Nat → List V → Hp → Prop) (h0 : Pv 0 [] (upd H1 D (.lst [])))
    (hD : ∀ i ys H, i ≤ min us.length vs.length → Pv i ys H → H D = some (.lst ys) ∧ ys.length ≤ i) (hl : ∀ i ys H, i ≤ min us.length vs.length → Pv i ys H → SqB K b1 H a1 us ∧ SqB K b2 H a2 vs) (hn : us.length ≤ sizeLine)
    (hs : ∀ i x y T ys H, us[i]? = some x → vs[i]? = some y → H T = none → Pv i ys H → g (.ref T) (carry fr σ) (upd H T (.tup [x, y])) fun σ2 H2 => Wk (carry fr σ) σ2 ∧ tc σ2 H2 fun b H3 => if b = true then te σ2 H3 fun y H4 => H4 D = some (.lst ys) ∧ Pv (i + 1) (ys ++ [y]) (upd H4 D (.lst (ys ++ [y]))) else Pv (i + 1) ys H3)
    (hd : ∀ ys H, Pv (min us.length vs.length) ys H → Q (.ref D) H) : tTurns fr g tc te D (Itz K b1 b2 a1 a2) σ H1 Q := by
  refine comp_seq (n := min us.length vs.length) Pv h0 hD (fun i ys H hi p => ?_) (fun ys H p => ?_) (by omega) (fun i ys H x H' hi p y => ?_) hd
  · obtain ⟨h1, h2⟩ := hl i ys H (Nat.le_of_lt hi) p
    have e1 : i < us.length := by omega
    have e2 : i < vs.length := by omega
    exact ⟨us, vs, us[i], vs[i], h1, h2, by simp [e1], by simp [e2]⟩
  · obtain ⟨h1, h2⟩ := hl _ ys H (Nat.le_refl _) p
    exact ⟨us, vs, h1, h2, by omega⟩
  · obtain ⟨h1, h2⟩ := hl i ys H (Nat.le_of_lt hi) p
    obtain ⟨T, v, u, e1, e2, e3, y1, y2⟩ := y
    subst e1 e3
    exact hs i v u T ys _ (y1 us h1) (y2 vs h2) e2 p
theorem Same.upd_old {H H' : Hp} {D : Addr} {o : HO} (e : Same H H') (h : H D = none) : Same H (upd H' D o) := fun b u q => by
  rw [upd_ne (fun z => by rw [z, h] at q; cases q)]; exact e b u q
theorem tYes_then {σ : St} {H : Hp} {A B : Hp → Prop} (h : A H) : tYes σ H (fun b H3 => if b = true then A H3 else B H3) := by
  show if true = true then A H else B H
  exact iteT h
end L2
set_option Elab.async false
set_option linter.all false
set_option maxRecDepth 100000
set_option maxHeartbeats 4000000
namespace L2
open PySem PySem.Spec PyProof.Rows
theorem eqAt_rel {A : Around} {s : Shared} {x : V} {u v : Value} (h1 : RelV x u) (h2 : RelV x v) (hf : ∀ z, x ≠ .flt z) (hb : ∀ z, x ≠ .byt z) : SeqAt.EqAt A s u v true := by
  cases x with
  | non => cases h1; cases h2; exact SeqAt.EqAt.same _
  | bl b => cases h1; cases h2; exact SeqAt.EqAt.same _
  | int i =>
    obtain ⟨t, rfl⟩ := h1
    obtain ⟨t', rfl⟩ := h2
    have := SeqAt.EqAt.int_int (A := A) (s := s) i t i t'
    rwa [beq_self_eq_true] at this
  | str z =>
    obtain ⟨t, rfl⟩ := h1
    obtain ⟨t', rfl⟩ := h2
    have := SeqAt.EqAt.str_str (A := A) (s := s) z t z t'
    rwa [beq_self_eq_true] at this
  | byt z => exact absurd rfl (hb z)
  | flt z => exact absurd rfl (hf z)
  | ref a => cases h1; cases h2; exact SeqAt.EqAt.same _
  | ty n => cases h1; cases h2; exact SeqAt.EqAt.same _
def plainV : V → Bool
  | .flt _ => false
  | .byt _ => false
  | _ => true
theorem vals_at {xs : List V} {us : List Value} (r : Vals xs us) {j : Nat} (h1 : j < xs.length) (h2 : j < us.length) : RelV xs[j] us[j] := by
  obtain ⟨u, e, q⟩ := r.get (i := j) (x := xs[j]) (by simp [h1])
  have : us[j]? = some us[j] := by simp [h2]
  rw [this] at e
  cases e
  exact q
section
variable {X : Cx} {K : PySem.W.Frag}
end
end L2
set_option Elab.async false
set_option linter.all false
set_option maxRecDepth 100000
set_option maxHeartbeats 4000000
namespace L2
open PySem PySem.Spec PyProof.Rows
structure DefAt (K : PySem.W.Frag) (x : Str) (st : Stmt) : Prop where
  ex : ∃ (f : Addr) (oc : Value) (od : Option Addr) (osl : Array (Option Value)) (kV doc pm : Value) (an : Option Addr) (cdv ct : Value), PySem.W.nsIn K mainGlobals x = some (some (.ref f)) ∧
    K.lookup f = some ⟨oc, od, .func (PySem.W.fnOf x x (defArgs st) (defBody st) (defScope st) .none kV doc pm an cdv ct), osl⟩ ∧ PySem.W.codeIn K cdv x = true ∧ PySem.W.keepIn K (.ref f) = true
theorem defAt {K : PySem.W.Frag} {x : Str} {st : Stmt} {f : Addr} {oc : Value} {od : Option Addr} {osl : Array (Option Value)} {kV doc pm : Value} {an : Option Addr} {cdv ct : Value} (a : PySem.W.nsIn K mainGlobals x = some (some (.ref f)))
    (l : K.lookup f = some ⟨oc, od, .func (PySem.W.fnOf x x (defArgs st) (defBody st) (defScope st) .none kV doc pm an cdv ct), osl⟩) (c : PySem.W.codeIn K cdv x = true) (k : PySem.W.keepIn K (.ref f) = true) : DefAt K x st := ⟨⟨f, oc, od, osl, kV, doc, pm, an, cdv, ct, a, l, c, k⟩⟩
def BindAt (x : Str) (st : Stmt) (ps : List Str) : Prop := ∀ (kV doc pm : Value) (an : Option Addr) (cdv ct : Value) (us : List Value), us.length = ps.length → bindArgs (PySem.W.fnOf x x (defArgs st) (defBody st) (defScope st) .none kV doc pm an cdv ct) ⟨us, []⟩ = pure (ps.zip us)
section
variable {P : Program} {w : World} {K : PySem.W.Frag} {mg : Str → Option Value} {base h : Heap} {x : Str} {st : Stmt} {ps : List Str} {k : Nat} {sp : Sp}
theorem DefAt.cal (D : DefAt K x st) (X : K.In h) (G : h.Ns mainGlobals mg) (hb : BindAt x st ps) (mk : ∀ f fd, Fun K x x st f fd → FnOk P w K mg base CX0 k f fd ps sp) : Cal P w K mg base k x ps sp := by
  obtain ⟨f, oc, od, osl, kV, doc, pm, an, cdv, ct, a, l, c, kk⟩ := D.ex
  have F := fun_mk (st := st) l c kk
  exact ⟨⟨f, _, mk f _ F, PySem.W.mg_of X G a, kk, F.binds hb⟩⟩
theorem DefAt.law {fa : Addr} {y : Str} (D : DefAt K x st) (X : K.In h) (G : h.Ns mainGlobals mg) (hfa : mg x = some (.ref fa)) (hb : BindAt x st [y]) (mk : ∀ f fd (base : Heap), Fun K x x st f fd → K.In base → base.Ns mainGlobals mg → FnOk P w K mg base CX0 k f fd [y] sp) :
    ∃ fd : FuncData, (∀ (s : Shared) (u : Value), BindsTo s fd ⟨[u], []⟩ [(y, u)]) ∧ ∀ base : Heap, K.In base → base.Ns mainGlobals mg → FnOk P w K mg base CX0 k fa fd [y] sp := by
  obtain ⟨f, oc, od, osl, kV, doc, pm, an, cdv, ct, a, l, c, kk⟩ := D.ex
  have F := fun_mk (st := st) l c kk
  have e := hfa.symm.trans (PySem.W.mg_of X G a)
  cases e
  exact ⟨_, fun s u => .of_eq (hb kV doc pm an cdv ct [u] rfl), fun base kb nb => mk fa _ base F kb nb⟩
theorem txt_nil : Txt [] mg := ⟨fun _ h => absurd h (by simp)⟩
theorem txt_cons {y : Str} {BN : List Str} (X : K.In h) (G : h.Ns mainGlobals mg) (a : PySem.W.nsIn K mainGlobals y = some none) (r : Txt BN mg) : Txt (y :: BN) mg := ⟨fun z hz => by
  rcases List.mem_cons.mp hz with e | e
  · rw [e]; exact PySem.W.mg_none_of X G a
  · exact r.nb z e⟩
end
def spLaw (K : PySem.W.Frag) : Sp := fun vs H Q _ => ∃ (a : Addr) (ns : List Int), vs = [.ref a] ∧ SqL K H a (ns.map V.int) ∧ ns.length ≤ 63 ∧ ∀ H', Q (.bl true) H'
theorem walkLaw {l : PySem.W.OpenLaw} {q : Program} {loose : List Str} {XP : (Str → Option Value) → Heap → Prop} {YP : World → Heap → Prop} {d : DefRec} {K : Params → PySem.W.Frag} {k : Nat} {x : Str} (hn : l.most = some 63) (hdf : d.params.defaults = []) (hk : Room k callerA)
    (hY : ∀ (w : World) (h : Heap), YP w h → (K w.params).In h)
    (F : ∀ (w : World) (mg : Str → Option Value) (fa : Addr) (h : Heap), (K w.params).In h → h.Ns mainGlobals mg → mg d.name = some (.ref fa) →
      ∃ fd : FuncData, (∀ (s : Shared) (u : Value), BindsTo s fd ⟨[u], []⟩ [(x, u)]) ∧ ∀ base : Heap, (K w.params).In base → base.Ns mainGlobals mg → FnOk l.prog w (K w.params) mg base CX0 k fa fd [x] (spLaw (K w.params))) :
    PySem.W.WalkO q loose XP YP l.row.toRowW d [] (fun f vs => PySem.call f vs) :=
  L2.walk_of (n := 63) (k := k) (x := x) (CX := fun _ => CX0) (sp := fun w => spLaw (K w.params)) hn (by decide) hdf hk hY F (fun _ _ a ns hl _ hS => ⟨a, ns, rfl, hS, hl, fun _ => rfl⟩) fun _ _ _ _ _ z => z
def cutI (ns : List Int) (lo hi : Option Int) : List Int := (ns.drop (HT.sIx ns.length 0 lo)).take (HT.sIx ns.length ns.length hi - HT.sIx ns.length 0 lo)
theorem cut_map (ns : List Int) (lo hi : Option Int) : cutV (ns.map V.int) lo hi = (cutI ns lo hi).map V.int := by
  unfold cutV cutI
  rw [List.length_map, List.map_take, List.map_drop]
end L2
set_option Elab.async false
set_option linter.all false
set_option maxRecDepth 100000
namespace L2
open PySem
theorem len1 {A B : Type} {x0 : B} {P : List A → Prop} (h : ∀ a0, P [a0]) : ∀ us : List A, us.length = [x0].length → P us
  | [], e => by simp at e
  | [a0], _ => h a0
  | _ :: _ :: _, e => by simp at e
theorem len2 {A B : Type} {x0 x1 : B} {P : List A → Prop} (h : ∀ a0 a1, P [a0, a1]) : ∀ us : List A, us.length = [x0, x1].length → P us
  | [], e => by simp at e
  | [_], e => by simp at e
  | [a0, a1], _ => h a0 a1
  | _ :: _ :: _ :: _, e => by simp at e
theorem len3 {A B : Type} {x0 x1 x2 : B} {P : List A → Prop} (h : ∀ a0 a1 a2, P [a0, a1, a2]) : ∀ us : List A, us.length = [x0, x1, x2].length → P us
  | [], e => by simp at e
  | [_], e => by simp at e
  | [_, _], e => by simp at e
  | [a0, a1, a2], _ => h a0 a1 a2
  | _ :: _ :: _ :: _ :: _, e => by simp at e
theorem len4 {A B : Type} {x0 x1 x2 x3 : B} {P : List A → Prop} (h : ∀ a0 a1 a2 a3, P [a0, a1, a2, a3]) : ∀ us : List A, us.length = [x0, x1, x2, x3].length → P us
  | [], e => by simp at e
  | [_], e => by simp at e
  | [_, _], e => by simp at e
  | [_, _, _], e => by simp at e
  | [a0, a1, a2, a3], _ => h a0 a1 a2 a3
  | _ :: _ :: _ :: _ :: _ :: _, e => by simp at e
theorem len5 {A B : Type} {x0 x1 x2 x3 x4 : B} {P : List A → Prop} (h : ∀ a0 a1 a2 a3 a4, P [a0, a1, a2, a3, a4]) : ∀ us : List A, us.length = [x0, x1, x2, x3, x4].length → P us
  | [], e => by simp at e
  | [_], e => by simp at e
  | [_, _], e => by simp at e
  | [_, _, _], e => by simp at e
  | [_, _, _, _], e => by simp at e
  | [a0, a1, a2, a3, a4], _ => h a0 a1 a2 a3 a4
  | _ :: _ :: _ :: _ :: _ :: _ :: _, e => by simp at e
end L2
set_option linter.all false
namespace Mw
end Mw
set_option linter.all false
namespace Mw
def lcmF (bs : List Int) : Int := bs.foldl (fun m n => m * (n / (Int.gcd m n : Int))) 1
def gcdF (ws : List Int) : Int := ws.foldl (fun d n => (Int.gcd d n : Int)) 0
def wholes (fs : List (Int × Int)) : List Int := fs.map fun f => f.1 * (lcmF (fs.map (·.2)) / f.2)
def whole (fs : List (Int × Int)) : List Int := if gcdF (wholes fs) = 0 then wholes fs else (wholes fs).map (· / gcdF (wholes fs))
end Mw
set_option Elab.async false
set_option linter.all false
set_option maxRecDepth 100000
set_option maxHeartbeats 4000000
namespace L2
theorem iteD {c A B : Prop} [Decidable c] (h1 : c → A) (h2 : ¬ c → B) : if decide c = true then A else B := by
  by_cases h : c
  · rw [decide_eq_true h]; exact iteT (h1 h)
  · rw [decide_eq_false h]; exact iteF (h2 h)
end L2
namespace Mw
open PySem L2
theorem take_snoc {α : Type} {l : List α} {i : Nat} {x : α} (h : l[i]? = some x) : l.take (i + 1) = l.take i ++ [x] := by
  rw [List.take_add_one, h]; rfl
theorem of_map {α : Type} {g : α → V} {l : List α} {i : Nat} {v : V} (h : (l.map g)[i]? = some v) : ∃ x, l[i]? = some x ∧ v = g x := by
  rw [List.getElem?_map] at h
  cases e : l[i]? with
  | none => rw [e] at h; cases h
  | some x => rw [e] at h; exact ⟨x, rfl, (Option.some.inj h).symm⟩
def FrAt (K : PySem.W.Frag) (H : Hp) (as : List Addr) (fs : List (Int × Int)) : Prop := Paired (fun a f => SqT K H a [.int f.1, .int f.2]) as fs
theorem FrAt.same {K : PySem.W.Frag} {H H' : Hp} {as : List Addr} {fs : List (Int × Int)} (e : Same H H') (h : FrAt K H as fs) : FrAt K H' as fs := Paired.mapP h fun _ _ q => e.seqT q
theorem paired_get {α β : Type} {R : α → β → Prop} : ∀ {as : List α} {bs : List β} {i : Nat} {a : α}, Paired R as bs → as[i]? = some a → ∃ b, bs[i]? = some b ∧ R a b
  | _, _, _, _, .nil, e => by simp at e
  | _, _, 0, _, .cons r _, e => by simp at e; subst e; exact ⟨_, rfl, r⟩
  | _, _, i + 1, a, .cons _ t, e => by
    obtain ⟨b, h1, h2⟩ := paired_get (i := i) (a := a) t (by simpa using e)
    exact ⟨b, by simpa using h1, h2⟩
theorem wk_none {σ2 : St} {n : Nat} (h : σ2.length = n) : Wk (List.replicate n none) σ2 := by
  refine ⟨by rw [h, List.length_replicate], fun i v e => ?_⟩
  rw [List.getElem?_replicate] at e
  split at e <;> cases e
theorem mul64 {i j : Int} (h1 : -18446744073709551616 < i) (h2 : i < 18446744073709551616) (h3 : -18446744073709551616 < j) (h4 : j < 18446744073709551616) : CMulB i j := by
  have e : (2 : Nat) ^ 64 = 18446744073709551616 := by decide
  refine ⟨64, by decide, ?_, ?_⟩
  · show i.natAbs < 2 ^ 64
    omega
  · show j.natAbs < 2 ^ 64
    omega
theorem div64 {i j : Int} (h1 : 0 < j) (h2 : j < 18446744073709551616) : CDivP i j := by
  have e : (2 : Nat) ^ 64 = 18446744073709551616 := by decide
  refine ⟨h1, Bits.mono (n := 64) ?_ (by decide)⟩
  show j.natAbs < 2 ^ 64
  omega
theorem paired_snoc {α β : Type} {R : α → β → Prop} {as : List α} {bs : List β} {a : α} {b : β} (h : Paired R as bs) (r : R a b) : Paired R (as ++ [a]) (bs ++ [b]) := Paired.snoc h r
theorem at_list {ds : List Int} {k : Nat} {z : Int} (hk : k < ds.length) (hz : z = (k : Int)) : ∃ d, d ∈ ds ∧ atI (ds.map V.int) z = some (.int d) := by
  subst hz
  exact ⟨ds[k], List.getElem_mem hk, atI_nat (by rw [List.getElem?_map, List.getElem?_eq_getElem hk]; rfl)⟩
theorem kt_int {K : PySem.W.Frag} : PySem.W.kitOne K (.type "int") (.type "int") = some true := by rfl
theorem kt_bool {K : PySem.W.Frag} : PySem.W.kitOne K (.type "int") (.type "bool") = some false := by kernel_rfl
end Mw
set_option Elab.async false
set_option linter.all false
set_option maxRecDepth 100000
set_option maxHeartbeats 4000000
namespace L2
open PySem PySem.Spec PyProof.Rows
def Deep (K : PySem.W.Frag) (H : Hp) : Nat → V → V → Prop
  | 0, x, y => x = y ∧ plainV x = true
  | n + 1, x, y => (x = y ∧ plainV x = true) ∨ ∃ a b xs ys, x = .ref a ∧ y = .ref b ∧ ((SqL K H a xs ∧ SqL K H b ys) ∨ (SqT K H a xs ∧ SqT K H b ys)) ∧ Paired (Deep K H n) xs ys
theorem Deep.same {K : PySem.W.Frag} {H : Hp} {n : Nat} {x : V} (h : plainV x = true) : Deep K H n x x := by
  cases n with
  | zero => exact ⟨rfl, h⟩
  | succ n => exact .inl ⟨rfl, h⟩
theorem Deep.all {K : PySem.W.Frag} {H : Hp} {n : Nat} : ∀ {xs : List V}, xs.all plainV = true → Paired (Deep K H n) xs xs
  | [], _ => .nil
  | x :: xs, h => by
    rw [List.all_cons, Bool.and_eq_true] at h
    exact .cons (Deep.same h.1) (Deep.all h.2)
theorem all_true (k : Nat) : ((List.range k).all fun _ => true) = true := by simp
theorem Room.units8 {k : Nat} {A : Around} (r : Room k A) : A.units + 8 < cLine := by have := r.units; omega
section
variable {X : Cx} {K : PySem.W.Frag} {pins : List (Addr × Obj)} {σ : St} {H : Hp} {s : Shared}
theorem deep_vals {n : Nat} {A : Around} {xs ys : List V} {its jts : List Value} (ih : ∀ {x y : V} {u v : Value}, Deep K H n x y → RelV x u → RelV y v → SeqAt.EqAt A s u v true) (p : Paired (Deep K H n) xs ys) (r1 : Vals xs its) (r2 : Vals ys jts) :
    its.length = jts.length ∧ ∀ j (h1 : j < its.toArray.size) (h2 : j < jts.toArray.size), SeqAt.EqAt A s its.toArray[j] jts.toArray[j] true := by
  have l1 := r1.length
  have l2 := r2.length
  have l3 := Paired.length p
  refine ⟨by omega, fun j h1 h2 => ?_⟩
  have g1 : j < its.length := by simpa using h1
  have g2 : j < jts.length := by simpa using h2
  obtain ⟨y, hy, d⟩ := Mw.paired_get p (i := j) (a := xs[j]'(by omega)) (List.getElem?_eq_getElem (by omega))
  have ey : y = ys[j]'(by omega) := by
    rw [List.getElem?_eq_getElem (by omega)] at hy
    exact (Option.some.inj hy).symm
  subst ey
  exact ih d (vals_at r1 (by omega) g1) (vals_at r2 (by omega) g2)
theorem deep_eqAt (hK : X.K = K) (I : Inv X pins σ H s) : ∀ (n : Nat) {A : Around} {x y : V} {u v : Value}, A.units + n < cLine → Deep K H n x y → RelV x u → RelV y v → SeqAt.EqAt A s u v true := by
  subst hK
  have flat : ∀ {A : Around} {x y : V} {u v : Value}, (x = y ∧ plainV x = true) → RelV x u → RelV y v → SeqAt.EqAt A s u v true := by
    intro A x y u v h r1 r2
    obtain ⟨rfl, hp⟩ := h
    exact eqAt_rel r1 r2 (fun z e => by rw [e] at hp; cases hp) (fun z e => by rw [e] at hp; cases hp)
  intro n
  induction n with
  | zero => intro A x y u v _ h r1 r2; exact flat h r1 r2
  | succ n ih =>
    intro A x y u v hu h r1 r2
    rcases h with h | ⟨a, b, xs, ys, rfl, rfl, hq, p⟩
    · exact flat h r1 r2
    · cases r1
      cases r2
      by_cases hab : a = b
      · subst hab; exact SeqAt.EqAt.same _
      · refine SeqAt.EqAt.of_refs hab ?_
        rcases hq with ⟨ha, hb⟩ | ⟨ha, hb⟩
        · obtain ⟨its, r1, p1, _⟩ := I.list ha
          obtain ⟨jts, r2, p2, _⟩ := I.list hb
          obtain ⟨hl, he⟩ := deep_vals (A := A.in1) (fun d q1 q2 => ih (by show A.units + 1 + n < cLine; omega) d q1 q2) p r1 r2
          have z := SeqAt.RcAt.lists (e := fun _ => true) p1.isList p2.isList (by simpa using hl) (by omega) he
          rw [all_true] at z
          exact z
        · obtain ⟨its, r1, p1, _⟩ := I.tuple ha
          obtain ⟨jts, r2, p2, _⟩ := I.tuple hb
          obtain ⟨hl, he⟩ := deep_vals (A := A.in1) (fun d q1 q2 => ih (by show A.units + 1 + n < cLine; omega) d q1 q2) p r1 r2
          have z := SeqAt.RcAt.tuples (e := fun _ => true) p1 p2 (by omega) he
          rw [all_true, Bool.true_and, List.size_toArray, List.size_toArray, hl, beq_self_eq_true] at z
          exact z
theorem op_eqDeep (n : Nat) (hK : X.K = K) (hu : X.A.units + 8 < cLine) (hn : n ≤ 7) : OpR X (compareOp .Eq) (fun x y H Q => (∃ a b xs ys, x = .ref a ∧ y = .ref b ∧ ((SqL K H a xs ∧ SqL K H b ys) ∨ (SqT K H a xs ∧ SqT K H b ys)) ∧ Paired (Deep K H n) xs ys) ∧ Q (.bl true) H) := by
  subst hK
  intro pins s σ H x y v u Q I rx ry h
  obtain ⟨⟨a, b, xs, ys, rfl, rfl, hq, p⟩, q⟩ := h
  cases rx
  cases ry
  rcases hq with ⟨ha, hb⟩ | ⟨ha, hb⟩
  · obtain ⟨its, r1, p1, _⟩ := I.list ha
    obtain ⟨jts, r2, p2, _⟩ := I.list hb
    obtain ⟨hl, he⟩ := deep_vals (A := X.A.in1) (fun d q1 q2 => deep_eqAt rfl I n (by show X.A.units + 1 + n < cLine; omega) d q1 q2) p r1 r2
    refine SeqAt.RcAt.lists (e := fun _ => true) p1.isList p2.isList (by simpa using hl) (by omega) he _ _ _ _ ?_
    have e : ((List.range its.toArray.size).all fun _ => true) = true := by simp
    rw [e]
    exact ⟨.bl true, H, I, rfl, q⟩
  · obtain ⟨its, r1, p1, _⟩ := I.tuple ha
    obtain ⟨jts, r2, p2, _⟩ := I.tuple hb
    obtain ⟨hl, he⟩ := deep_vals (A := X.A.in1) (fun d q1 q2 => deep_eqAt rfl I n (by show X.A.units + 1 + n < cLine; omega) d q1 q2) p r1 r2
    refine SeqAt.RcAt.tuples (e := fun _ => true) p1 p2 (by omega) he _ _ _ _ ?_
    have e : ((List.range (min its.toArray.size jts.toArray.size)).all (fun _ => true) && its.toArray.size == jts.toArray.size) = true := by simp [hl]
    rw [e]
    exact ⟨.bl true, H, I, rfl, q⟩
theorem op_neDeep (n : Nat) (hK : X.K = K) (hu : X.A.units + 8 < cLine) (hn : n ≤ 7) : OpR X (compareOp .NotEq) (fun x y H Q => (∃ a b xs ys, x = .ref a ∧ y = .ref b ∧ ((SqL K H a xs ∧ SqL K H b ys) ∨ (SqT K H a xs ∧ SqT K H b ys)) ∧ Paired (Deep K H n) xs ys) ∧ Q (.bl false) H) := by
  subst hK
  intro pins s σ H x y v u Q I rx ry h
  obtain ⟨⟨a, b, xs, ys, rfl, rfl, hq, p⟩, q⟩ := h
  cases rx
  cases ry
  rcases hq with ⟨ha, hb⟩ | ⟨ha, hb⟩
  · obtain ⟨its, r1, p1, _⟩ := I.list ha
    obtain ⟨jts, r2, p2, _⟩ := I.list hb
    obtain ⟨hl, he⟩ := deep_vals (A := X.A.in1) (fun d q1 q2 => deep_eqAt rfl I n (by show X.A.units + 1 + n < cLine; omega) d q1 q2) p r1 r2
    refine SeqAt.RcNeAt.lists (e := fun _ => true) p1.isList p2.isList (by simpa using hl) (by omega) he _ _ _ _ ?_
    have e : (!(List.range its.toArray.size).all fun _ => true) = false := by simp
    rw [e]
    exact ⟨.bl false, H, I, rfl, q⟩
  · obtain ⟨its, r1, p1, _⟩ := I.tuple ha
    obtain ⟨jts, r2, p2, _⟩ := I.tuple hb
    obtain ⟨hl, he⟩ := deep_vals (A := X.A.in1) (fun d q1 q2 => deep_eqAt rfl I n (by show X.A.units + 1 + n < cLine; omega) d q1 q2) p r1 r2
    refine SeqAt.RcNeAt.tuples (e := fun _ => true) p1 p2 (by omega) he _ _ _ _ ?_
    have e : (!((List.range (min its.toArray.size jts.toArray.size)).all (fun _ => true) && its.toArray.size == jts.toArray.size)) = false := by simp [hl]
    rw [e]
    exact ⟨.bl false, H, I, rfl, q⟩
end
end L2
set_option Elab.async false
set_option linter.all false
set_option maxRecDepth 100000
set_option maxHeartbeats 4000000
namespace L2
open PySem PySem.Spec PyProof.Rows
section
variable {X : Cx} {K : PySem.W.Frag}
theorem op_eqNil (hK : X.K = K) (hu : X.A.units < cLine) : OpR X (compareOp .Eq) (fun x y H Q => ∃ (a b : Addr) (xs : List V), x = .ref a ∧ y = .ref b ∧ SqL K H a xs ∧ SqL K H b [] ∧ (xs = [] → Q (.bl true) H) ∧ (xs ≠ [] → Q (.bl false) H)) := by
  subst hK
  intro pins s σ H x y v u Q I rx ry h
  obtain ⟨a, b, xs, rfl, rfl, ha, hb, q1, q2⟩ := h
  cases rx
  cases ry
  obtain ⟨its, r1, p1, _⟩ := I.list ha
  obtain ⟨jts, r2, p2, _⟩ := I.list hb
  cases r2
  by_cases hl : xs = []
  · subst hl
    cases r1
    exact SeqAt.RcAt.lists (e := fun _ => true) p1.isList p2.isList rfl hu (fun j h1 _ => by simp at h1) _ _ _ _ ⟨.bl true, H, I, rfl, q1 rfl⟩
  · have hn : its ≠ [] := fun z => by subst z; cases r1; exact hl rfl
    refine SeqAt.eq_list_lengthsAt p1.isList p2.isList ?_ hu ⟨.bl false, H, I, rfl, q2 hl⟩
    cases its with
    | nil => exact absurd rfl hn
    | cons _ _ => simp
theorem op_neNil (hK : X.K = K) (hu : X.A.units < cLine) : OpR X (compareOp .NotEq) (fun x y H Q => ∃ (a b : Addr) (xs : List V), x = .ref a ∧ y = .ref b ∧ SqL K H a xs ∧ SqL K H b [] ∧ (xs = [] → Q (.bl false) H) ∧ (xs ≠ [] → Q (.bl true) H)) := by
  subst hK
  intro pins s σ H x y v u Q I rx ry h
  obtain ⟨a, b, xs, rfl, rfl, ha, hb, q1, q2⟩ := h
  cases rx
  cases ry
  obtain ⟨its, r1, p1, _⟩ := I.list ha
  obtain ⟨jts, r2, p2, _⟩ := I.list hb
  cases r2
  by_cases hl : xs = []
  · subst hl
    cases r1
    exact SeqAt.RcNeAt.lists (e := fun _ => true) p1.isList p2.isList rfl hu (fun j h1 _ => by simp at h1) _ _ _ _ ⟨.bl false, H, I, rfl, q1 rfl⟩
  · have hn : its ≠ [] := fun z => by subst z; cases r1; exact hl rfl
    refine SeqAt.RcNeAt.lists_lengths p1.isList p2.isList ?_ hu _ _ _ _ ⟨.bl true, H, I, rfl, q2 hl⟩
    cases its with
    | nil => exact absurd rfl hn
    | cons _ _ => simp
end
end L2
set_option Elab.async false
set_option linter.all false
set_option maxRecDepth 100000
set_option maxHeartbeats 4000000
namespace L2
open PySem PySem.Spec PyProof.Rows
def CXE (P : Program) (w : World) : CXT := fun outer H s E ev s' =>
  ∃ (e C : Addr) (a0 : Value) (B : Heap) (H' : Hp), ev = .ref e ∧ s'.os = s.os ∧ AllBare s'.gens ∧ Un (frs outer) [] H H' s.heap s'.heap ∧ HOk P w H' s'.heap ∧
    Heap.FlyingW B outer e (.ref C) a0 s'.heap ∧ (∀ b u, H' b = some u → ∃ o, B.get? b = some o) ∧ (∀ b o, s.heap.get? b = some o → b ∉ frs outer → ∃ o', B.get? b = some o') ∧ s.heap.get? e = none ∧ E (.ref C) none H'
theorem hok_there {P : Program} {w : World} {H : Hp} {h : Heap} {a : Addr} {o : HO} (x : ObjOk P w H h a o) : ∃ ob, h.get? a = some ob := by
  cases o with
  | lst xs => obtain ⟨_, _, _, _, e⟩ := x; exact ⟨_, e⟩
  | tup xs => obtain ⟨_, _, _, o, e, _⟩ := x; exact ⟨o, e⟩
  | dK kvs => obtain ⟨_, _, _, _, o, _, _, e, _⟩ := x; exact ⟨o, e⟩
  | dT kvs => obtain ⟨_, _, _, _, o, _, _, e, _⟩ := x; exact ⟨o, e⟩
  | set S n => obtain ⟨o, _, _, _, e, _⟩ := x; exact ⟨o, e⟩
  | ins C dx fs => obtain ⟨_, _, _, e, _⟩ := x; exact ⟨_, e⟩
  | own y => obtain ⟨o, e⟩ := x; exact ⟨o, e⟩
  | xd fs => obtain ⟨_, ⟨o, _, _, e, _⟩, _⟩ := x; exact ⟨o, e⟩
  | rng lo hi => obtain ⟨_, _, _, e⟩ := x; exact ⟨_, e⟩
  | frz ob u => obtain ⟨e, _⟩ := x; exact ⟨_, e⟩
  | tbl ps => exact ⟨_, (show h.get? a = some _ from x)⟩
  | met f y => exact ⟨_, (show h.get? a = some _ from x)⟩
  | ext φ => obtain ⟨_, e, _⟩ := x; exact e
theorem no_fs {b : Addr} : b ∉ ([] : List Addr) := by simp
section
variable {X : Cx} {pins : List (Addr × Obj)} {σ : St} {H : Hp} {s : Shared} {g h' B : Heap} {e C : Addr} {a0 : Value} {E : XK}
theorem stay_by (hs : B.StaysIn g) (hs' : B.StaysIn h') {b : Addr} {o o' : Obj} (hb : B.get? b = some o') (hg : g.get? b = some o) : h'.get? b = some o := by
  have q := hs b o' hb
  rw [hg] at q
  cases q
  exact hs' b o hb
theorem hok_by {P : Program} {w : World} (hok : HOk P w H g) (hs : B.StaysIn g) (hs' : B.StaysIn h') (hT : ∀ b u, H b = some u → ∃ o, B.get? b = some o) : HOk P w H h' := fun b u q =>
  (hok b u q).stay (fun c v hc r => by
    have ⟨o', z⟩ : ∃ o', B.get? c = some o' := by
      rcases hc with z | z
      · rw [z]; exact hT b u q
      · exact hT c _ z
    exact stay_by hs hs' z r) (fun _ r => r) fun _ _ r => r
theorem leave_fin (I : Inv X pins σ H s) (hex : X.ex = []) (gk : ∀ b o, s.heap.get? b = some o → g.get? b = some o) (fl : Heap.FlyingW B X.outer e (.ref C) a0 h') (up : g.UpToSlots h')
    (hB : ∀ b o, X.s₀.heap.get? b = some o → b ∉ frs X.outer → ∃ o', B.get? b = some o') (hT : ∀ b u, H b = some u → ∃ o, B.get? b = some o) (hs : B.StaysIn g) (he : X.s₀.heap.get? e = none) (hE : E (.ref C) none H) :
    CXE X.prog X.w X.outer X.H₀ X.s₀ E (.ref e) { s with heap := h' } := by
  have nx : ∀ b, b ∉ X.ex := fun b z => by rw [hex] at z; exact absurd z (by simp)
  have sl : ∀ b, b ∈ frs X.outer → ∃ o o', X.s₀.heap.get? b = some o ∧ h'.get? b = some o' ∧ (∀ o2, X.s₀.heap.get? b = some o2 → ∃ sl, o' = { o2 with slots := sl }) := fun b hb => by
    obtain ⟨_, o, ho, hd⟩ := I.ok.funs.mem hb
    obtain ⟨s1, e1⟩ := I.base.slot b o ho (I.ok.frf b hb) hb (nx b)
    obtain ⟨s2, e2⟩ := up b _ (gk b _ e1) hd
    exact ⟨o, _, ho, e2, fun o2 q => by rw [ho] at q; cases q; exact ⟨s2, rfl⟩⟩
  have gfl : HOk X.prog X.w H g := I.hok.kept gk
  refine ⟨e, C, a0, B, H, rfl, I.os, I.bare, ⟨fun b o q n hb _ => ?_, fun b o q n hb _ => ?_, fun b o q n _ => I.base.free b o q n (nx b), fun b o q _ => ?_, I.base.tups, I.base.frzs, I.base.tbls⟩, hok_by gfl hs fl.1 hT, fl, hT, hB, he, hE⟩
  · obtain ⟨o', z⟩ := hB b o q hb
    exact stay_by hs fl.1 z (gk b o (I.base.keep b o q n hb (nx b)))
  · obtain ⟨_, o', _, z, r⟩ := sl b hb
    obtain ⟨s2, r⟩ := r o q
    exact ⟨s2, by rw [z, r]⟩
  · by_cases hb : b ∈ frs X.outer
    · obtain ⟨_, o', _, z, _⟩ := sl b hb
      exact ⟨o', z⟩
    · obtain ⟨o', z⟩ := hB b o q hb
      exact ⟨o', fl.1 b o' z⟩
theorem Inv.older (I : Inv X pins σ H s) {b : Addr} {o : Obj} (q : X.s₀.heap.get? b = some o) (hb : b ∉ frs X.outer) : b ∉ frs X.stack := fun z => by
  rcases List.mem_cons.mp (I.stkSub b z) with r | r
  · rw [r] at q; exact absurd (Nat.lt_of_lt_of_le (Heap.lt_size q) I.ok.above) (Nat.lt_irrefl _)
  · exact hb r
end
section
variable {P : Program} {w : World} {K : PySem.W.Frag} {mg : Str → Option Value} {base : Heap} {N : List Str} {qual : Str} {scope : Scope} {f : Addr} {cd : Value} {A : Around} {outer : List Env} {s₀ : Shared} {H₀ : Hp} {E : XK}
theorem raise_out {pins : List (Addr × Obj)} {σ : St} {H : Hp} {s : Shared} {h1 : Heap} {e C : Addr} {args : List Value} (I : Inv (cxOf (CXE P w) P w K mg base N qual scope f cd A outer s₀ H₀ E) pins σ H s) (hx : Heap.MadeExcOf s.heap h1 e (.ref C) args) (hE : E (.ref C) none H) :
    (cxOf (CXE P w) P w K mg base N qual scope f cd A outer s₀ H₀ E).xe (.ref e) { s with heap := h1 } := by
  have hin : ∀ env ∈ (envOfC qual scope s₀.heap.objs.size f cd :: outer), ∀ b, env.frame = some b → b ∈ frs (envOfC qual scope s₀.heap.objs.size f cd :: outer) := fun env he b hb => List.mem_filterMap.mpr ⟨env, he, hb⟩
  have hg : ∀ b o, s.heap.get? b = some o → b ∉ frs (envOfC qual scope s₀.heap.objs.size f cd :: outer) → (PySem.W.hideAll s.heap (frs (envOfC qual scope s₀.heap.objs.size f cd :: outer))).get? b = some o := fun b o q hb => PySem.W.hideAll_get _ q hb
  show wpAny _ _ («leaving» (envOfC qual scope s₀.heap.objs.size f cd) (.ref e)) _ _ _
  refine wpAny_leaves_madeW (base := PySem.W.hideAll s.heap (frs (envOfC qual scope s₀.heap.objs.size f cd :: outer))) (h := s.heap) I.ok.frames rfl (fun b o q => PySem.W.of_hideAll _ q) (PySem.W.funFrames_hide I.stack hin) hx fun h' t fl _ _ up => ?_
  refine leave_fin (g := h1) I rfl hx.keeps fl up (fun b o q hb => ?_) (fun b u q => ?_) (fun b o q => hx.keeps b o (PySem.W.of_hideAll _ q)) ?_ hE
  · obtain ⟨o', z⟩ := I.base.there b o q no_fs
    exact ⟨o', hg b o' z (I.older q hb)⟩
  · obtain ⟨o, z⟩ := hok_there (I.hok b u q)
    exact ⟨o, hg b o z fun hb => by rw [I.stkFree b hb] at q; cases q⟩
  · cases q : s₀.heap.get? e with
    | none => exact q
    | some o =>
      obtain ⟨o', z⟩ := I.base.there e o q no_fs
      rw [hx.new] at z; cases z
theorem pass_out : Passes (CXE P w) (cxOf (CXE P w) P w K mg base N qual scope f cd A outer s₀ H₀ E) E := fun pins σ H s ev s' I h => by
  obtain ⟨e, C, a0, B, H', rfl, os, bare, un, hok, fl, hT, hB, he, hE⟩ := h
  have I' := I.call' os un hok bare (fun b z => absurd z (by simp))
  show wpAny _ _ («leaving» (envOfC qual scope s₀.heap.objs.size f cd) (.ref e)) _ _ _
  refine wpAny_leaves_onW I.ok.frames rfl fl fun h' fl' up => ?_
  refine leave_fin (g := s'.heap) I' rfl (fun _ _ q => q) fl' up (fun b o q hb => ?_) hT fl.1 ?_ hE
  · obtain ⟨o', z⟩ := I.base.there b o q no_fs
    exact hB b o' z (I.older q hb)
  · cases q : s₀.heap.get? e with
    | none => exact q
    | some o =>
      obtain ⟨o', z⟩ := I.base.there e o q no_fs
      rw [he] at z; cases z
end
end L2
set_option Elab.async false
set_option linter.all false
set_option maxRecDepth 100000
set_option maxHeartbeats 4000000
namespace L2
open PySem PySem.Spec PyProof.Rows
def PassG (CX : CXT) (X : Cx) (G : St → XK) : Prop := ∀ (pins : List (Addr × Obj)) (σ : St) (H : Hp) (s : Shared) (e : Value) (s' : Shared), Inv X pins σ H s → CX X.stack H s (G σ) e s' → X.xe e s'
def tCallG (sp : Sp) (dvs : List V) (G : St → XK) (t : TA) : TE := fun σ H Q => t σ H fun vs H1 => sp (vs ++ dvs) H1 Q (G σ)
structure CalX (P : Program) (w : World) (K : PySem.W.Frag) (mg : Str → Option Value) (base : Heap) (k : Nat) (x : Str) (ps : List Str) (sp : Sp) : Prop where
  ex : ∃ f fd, FnOk P w K mg base (CXE P w) k f fd ps sp ∧ mg x = some (.ref f) ∧ PySem.W.keepIn K (.ref f) = true ∧ Binds K fd ps []
section
variable {X : Cx} {CX : CXT} {k : Nat} {f : Addr} {fd : FuncData} {ps : List Str} {sp : Sp} {dvs : List V} {ds : List Value} {G : St → XK} {x : Str} {p pos : Pos} {e : Expr} {es : List Expr} {t : TA}
theorem run_fnG {pins : List (Addr × Obj)} {σ : St} {H : Hp} {s : Shared} {Q : VK} {us : List Value} {vs : List V} (F : FnOk X.prog X.w X.K X.mg X.base CX k f fd ps sp) (hr : Room k X.A) (hb : Binds X.K fd ps ds) (hd : Vals dvs ds) (hx : PassG CX X G)
    (I : Inv X pins σ H s) (r : Vals vs us) (h : sp (vs ++ dvs) H Q (G σ)) : wpAny (model X.prog X.w) X.A (call (.ref f) us) (EP X pins σ Q) X.xe s := by
  have r2 : Vals (vs ++ dvs) (us ++ ds) := r.append hd
  have hl : (us ++ ds).length = ps.length := by rw [← r2.length]; exact F.len _ _ _ _ h
  refine wpAny_call (codeAny_mono (F.run X.A X.stack s H ⟨us, []⟩ (us ++ ds) (vs ++ dvs) Q (G σ) hr I.env0 (hb s us I.kIn hl) r2 h) fun r s' hq => ?_)
  cases r with
  | error e => exact hx pins σ H s e s' I hq
  | ok fl =>
    cases fl with
    | ret u => exact I.after hq
    | next => exact False.elim hq
    | brk => exact False.elim hq
    | cont => exact False.elim hq
theorem pe_calG (C : CalX X.prog X.w X.K X.mg X.base k x ps sp) (hr : Room k X.A) (hg : Gl X x) (hx : PassG (CXE X.prog X.w) X G) (ha : PA X (e :: es) t) (hdb : (x == ("__debug__" : Str)) = false := by decide)
    (he : starEach (e :: es) X.env = (false, eval e X.env) :: starEach es X.env := by rfl) (hpl : (backTo pos (starEach es X.env)).any (·.1) = false := by rfl) : PE X (.Call (.Name x p) (e :: es) [] pos) (tCallG sp [] G t) := by
  obtain ⟨f, fd, F, m, kk, b⟩ := C.ex
  intro pins s σ H Q I h
  refine wpAny_Call_Name_kw (ld_glob I hg m ?_ hdb)
  refine PySem.W.callWith_K (h₀ := X.base) I.ok.mod.kin kk (thn (ha pos pins s σ H _ I h) fun us s1 ⟨vs, H1, I1, r, q⟩ => ⟨I1.kIn, ?_⟩) he hpl
  exact run_fnG F hr b .nil hx I1 r q
end
structure ExcC (K : PySem.W.Frag) (C : Addr) : Prop where
  ok : PySem.W.excIn K C [.type "ValueError", .type "Exception", .type "BaseException", .type "object"] "ValueError.__new__" = true
theorem ExcC.obj {K : PySem.W.Frag} {C : Addr} {h : Heap} (q : ExcC K C) (X : K.In h) : ∃ (bm : List Value) (N : Addr) (nm qn : Str) (bs : List Value) (hd : Bool) (sn : List Str) (sub : List Value) (ab : Bool) (col : Option Bool) (dd : Option Addr) (k0 k1 k2 k3 k5 : Option Value) (mN : Str → Option Value),
    h.get? C = some (excClassObj nm qn C N bs bm hd sn sub ab col dd k0 k1 k2 k3 k5 "ValueError.__new__") ∧ h.Ns N mN ∧ mN "__init__" = none ∧ OwnTail h [.type "ValueError", .type "Exception", .type "BaseException", .type "object"] bm := by
  have q := q.ok
  unfold PySem.W.excIn at q
  split at q
  · rename_i dd cd sl ho
    split at q
    · rename_i C' bm k0 k1 k2 k3 n k5 hm hs
      simp only [Bool.and_eq_true, beq_iff_eq, Bool.not_eq_true'] at q
      obtain ⟨⟨⟨⟨⟨rfl, rfl⟩, hdel⟩, ht⟩, hok⟩, hni⟩ := q
      obtain ⟨nm, bs, mro, ns, qn, hd, sn, sub, ab, col, del⟩ := cd
      dsimp only at hm hdel hok hni
      subst hm hdel
      have hsl : sl = #[k0, k1, k2, k3, some (.builtin "ValueError.__new__"), k5] := by
        obtain ⟨l⟩ := sl
        simp only at hs
        rw [hs]
      subst hsl
      exact ⟨bm, ns, nm, qn, bs, hd, sn, sub, ab, col, dd, k0, k1, k2, k3, k5, _, X _ _ ho, .of_isNs (PySem.W.isNs_of_in X hok), PySem.W.nsMap_none_of_in X hok hni, PySem.W.tail_of_in X ht⟩
    · cases q
  · cases q
def tRaise (C : Addr) (G : St → XK) (t : TA) : TS := fun _ σ H => t σ H fun vs H1 => vs.length ≤ sizeLine ∧ G σ (.ref C) none H1
def RaiseG (X : Cx) (G : St → XK) : Prop := ∀ (pins : List (Addr × Obj)) (σ : St) (H : Hp) (s : Shared) (h1 : Heap) (e C : Addr) (args : List Value), Inv X pins σ H s → Heap.MadeExcOf s.heap h1 e (.ref C) args → G σ (.ref C) none H → X.xe (.ref e) { s with heap := h1 }
section
variable {X : Cx} {C : Addr} {G : St → XK} {x : Str} {np cpos pos : Pos} {e : Expr} {es : List Expr} {t : TA}
theorem ps_raise (hc : X.calm = true) (q : ExcC X.K C) (hg : Gl X x) (hm : X.mg x = some (.ref C)) (hx : RaiseG X G) (ha : PA X (e :: es) t)
    (he : starEach (e :: es) X.env = (false, eval e X.env) :: starEach es X.env := by rfl) (hpl : (backTo cpos (starEach es X.env)).any (·.1) = false := by rfl) (hdb : (x == ("__debug__" : Str)) = false := by decide) :
    PS X (.Raise (some (.Call (.Name x np) (e :: es) [] cpos)) none pos) (tRaise C G t) := by
  intro pins s σ H D I h
  have hpl' : (backTo cpos (starEach (e :: es) X.env)).any (·.1) = false := by
    rw [he]
    show ((false || (backTo cpos (starEach es X.env)).any (·.1))) = false
    rw [hpl]; rfl
  obtain ⟨bm, N, nm, qn, bs, hd, sn, sub, ab, col, dd, k0, k1, k2, k3, k5, mN, hC, hN, hni, TL⟩ := q.obj I.mod.kin
  refine wpAny_Raise_call_subU (C := C) (N := N) (nm := nm) (q := qn) (bs := bs) (bm := bm) (hdct := hd) (sn := sn) (sub := sub) (ab := ab) (col := col) (dd := dd) (k0 := k0) (k1 := k1) (k2 := k2) (k3 := k3) (k5 := k5) (mN := mN)
    PySem.F.excBase_ValueError (by decide +kernel) PySem.F.excBase_ValueError (TL.hasType (by decide +kernel)) (I.ok.hd hc) hpl' hni (ld_glob I hg hm ⟨rfl, ?_⟩ hdb)
  have pa := ha cpos pins s σ H _ I h
  rw [he] at pa ⊢
  show wpAny _ _ (evalArgs (.ref C) true ((false, eval e X.env) :: backTo cpos (starEach es X.env)) []) _ _ _
  refine Calls.evalArgs_plain (thn pa fun us s1 ⟨vs, H1, I1, r1, z, q1⟩ => ⟨rfl, (show us.length ≤ sizeLine by rw [← r1.length]; exact z), ?_⟩)
  exact ⟨I1.bk _ _ hC, hN.keeps I1.bk, TL.keeps I1.bk, fun h1 e1 hx1 => hx pins σ H1 s1 h1 e1 C us I1 hx1 q1⟩
end
section
variable {P : Program} {w : World} {K : PySem.W.Frag} {mg : Str → Option Value} {base : Heap} {N : List Str} {qual : Str} {scope : Scope} {f : Addr} {cd : Value} {A : Around} {outer : List Env} {s₀ : Shared} {H₀ : Hp} {E : XK}
theorem raiseG_out : RaiseG (cxOf (CXE P w) P w K mg base N qual scope f cd A outer s₀ H₀ E) (fun _ => E) := fun _ _ _ _ _ _ _ _ I hx hE => raise_out I hx hE
theorem passG_out : PassG (CXE P w) (cxOf (CXE P w) P w K mg base N qual scope f cd A outer s₀ H₀ E) (fun _ => E) := fun pins σ H s e s' I h => pass_out pins σ H s e s' I h
end
theorem Fun.okX {P : Program} {w : World} {K : PySem.W.Frag} {mg : Str → Option Value} {base : Heap} {x qual : Str} {st : Stmt} {f : Addr} {fd : FuncData} {N ps : List Str} {k : Nat} {sp : Sp} (F : Fun K x qual st f fd) (S : FnScope N ps (defScope st)) (len : ∀ vs H Q E, sp vs H Q E → vs.length = ps.length)
    (hbody : ∀ (cdv : Value) (A : Around) (outer : List Env) (s : Shared) (H : Hp) (vs : List V) (Q : VK) (E : XK), Room k (A.deeper (envOfC qual (defScope st) s.heap.objs.size f cdv)) → sp vs H Q E →
      ∃ t, PSs (cxOf (CXE P w) P w K mg base N qual (defScope st) f cdv A outer s H E) (defBody st) t ∧ t { nx := fun _ H' => Q .non H', rt := Q } (start N vs) H) : FnOk P w K mg base (CXE P w) (k + 1) f fd ps sp := by
  obtain ⟨oc, od, kV, doc, pm, an, cdv, ct, osl, rfl, lk, hcd⟩ := F.ex
  exact fn_of lk hcd S len fun A outer s H vs Q E hr hsp => hbody cdv A outer s H vs Q E hr hsp
def tryC (X : Cx) (pn : List (Addr × Obj)) (G : St → XK) : Cx := { X with pn := pn, xe := fun ev s' => ∃ σ H s, Inv { X with pn := pn, xe := fun _ _ => False } [] σ H s ∧ CXE X.prog X.w X.stack H s (G σ) ev s' }
theorem Inv.like {X Y : Cx} {pins pins' : List (Addr × Obj)} {σ : St} {H : Hp} {s : Shared} (I : Inv X pins σ H s) (ok : Y.Ok) (h1 : Y.s₀ = X.s₀) (h2 : Y.H₀ = X.H₀) (h3 : Y.outer = X.outer) (h4 : Y.ex = X.ex) (h5 : Y.env = X.env) (h6 : Y.N = X.N) (h7 : Y.prog = X.prog) (h8 : Y.w = X.w)
    (hp : ∀ p ∈ Y.pn ++ pins', s.heap.get? p.1 = some p.2 ∧ H p.1 = none ∧ p.1 ≠ X.env.locals ∧ p.1 ∉ X.fs ∧ ∀ v, p.2.data ≠ .cell v) : Inv Y pins' σ H s := by
  refine ⟨ok, by rw [h1]; exact I.os, I.bare, by show Un (frs Y.outer) Y.ex Y.H₀ H Y.s₀.heap s.heap; rw [h1, h2, h3, h4]; exact I.base, by rw [h5, h6]; exact I.loc, by rw [h5]; exact I.cell, by rw [h5]; exact I.free, by rw [h5]; exact I.freeC, fun p hm => ?_, by rw [h7, h8]; exact I.hok, by rw [h6]; exact I.len⟩
  show _ ∧ _ ∧ p.1 ≠ Y.env.locals ∧ p.1 ∉ frs Y.outer ∧ _
  rw [h5, h3]
  exact hp p hm
theorem tryC_pass {X : Cx} {pn : List (Addr × Obj)} {G : St → XK} : PassG (CXE X.prog X.w) (tryC X pn G) G := fun pins σ H s e s' I h =>
  ⟨σ, H, s, I.like (Y := { X with pn := pn, xe := fun _ _ => False }) ⟨I.ok.mod, I.ok.kind, I.ok.glob, I.ok.blt, I.ok.above, I.ok.inj, I.ok.has, I.ok.cab, I.ok.hd, I.ok.frames, I.ok.stk, I.ok.exf, I.ok.bs, I.ok.bsz, I.ok.noex, I.ok.exfs, I.ok.funs, I.ok.frf⟩ rfl rfl rfl rfl rfl rfl rfl rfl
    (fun p hp => I.pin p (List.mem_append_left _ (show p ∈ pn by simpa using hp))), h⟩
def excO (C a : Addr) : HO := .ext fun h => ∃ o, h.get? a = some o ∧ o.cls = .ref C ∧ ∃ vs, o.data = .fields vs
def hndC (X : Cx) (pn : List (Addr × Obj)) (e : Addr) : Cx := { X with pn := pn, A := X.A.mark (some (.ref e)), calm := false, xe := fun _ _ => False }
def tTry (K : PySem.W.Frag) (c : Addr) (i : Nat) (tb : (St → XK) → TS) (ts : TS) : TS := fun D σ H =>
  tb (fun σ1 cls _ H1 => ∃ C, cls = .ref C ∧ PySem.W.exmOne K (.ref C) (.ref c) = some true ∧ ∀ a, H1 a = none →
    ts { nx := fun σ2 H2 => D.nx (σ2.set i none) H2, rt := D.rt, bk := fun σ2 H2 => D.bk (σ2.set i none) H2, ct := fun σ2 H2 => D.ct (σ2.set i none) H2 } (σ1.set i (some (.ref a))) (upd H1 a (excO C a))) D σ H
end L2
set_option Elab.async false
set_option linter.all false
set_option maxRecDepth 100000
set_option maxHeartbeats 4000000
namespace L2
open PySem PySem.Spec PyProof.Rows
section
variable {X : Cx} {pins : List (Addr × Obj)} {σ : St} {H : Hp} {s : Shared}
theorem gone_ok {M : Model} {A : Around} {E : Value → Shared → Prop} {Q : Unit → Shared → Prop} {i : Nat} {n : Str} {pos : Pos} (I : Inv X pins σ H s) (hN : X.N.Nodup) (hi : X.N[i]? = some n) (hl : X.env.scope.names.lookup n = some .local)
    (h : ∀ s', Inv X pins (σ.set i none) H s' → Q () s') : wpAny M A (do bindName X.env n .none; unbindBehindTheSuite X.env n pos) Q E s := by
  obtain ⟨m, hn, hv⟩ := id I.loc
  have hcls : (X.env.scope.kind == .class || (X.env.scope.kind == .module && X.env.locals != X.env.globals)) = false := by rw [I.ok.kind]; rfl
  refine wpAny_nameGoes_keeps hl hn hcls fun h' v hn' hs => ?_
  have old : ∀ b o, X.s₀.heap.get? b = some o → b ≠ X.env.locals := fun b o e => Nat.ne_of_lt (Nat.lt_of_lt_of_le (Heap.lt_size e) I.ok.above)
  have trk : HOk X.prog X.w H h' := fun b ob e => by
    refine (I.hok b ob e).stay (fun c w' hc q => (hs.2 c ?_).trans q) (fun _ q => q) fun _ _ q => q
    rintro rfl
    rcases hc with hc | hc
    · rw [← hc, I.free] at e; cases e
    · rw [I.free] at hc; cases hc
  refine h _ ⟨I.ok, I.os, I.bare, ⟨fun b o e nn hb hx => (hs.2 b (old b o e)).trans (I.base.keep b o e nn hb hx), fun b o e nn hb hx => ?_, I.base.free, fun b o e hx => ?_, I.base.tups, I.base.frzs, I.base.tbls⟩,
    ⟨_, hn', fun j y v' e1 e2 e3 => ?_⟩, fun y c e => ?_, I.free, I.freeC, fun p hp => ?_, trk, by simpa using I.len⟩
  · obtain ⟨sl, e1⟩ := I.base.slot b o e nn hb hx
    exact ⟨sl, (hs.2 b (old b o e)).trans e1⟩
  · obtain ⟨o', e1⟩ := I.base.there b o e hx
    exact ⟨o', (hs.2 b (old b o e)).trans e1⟩
  · by_cases hj : j = i
    · subst hj
      rw [List.getElem?_set] at e2
      simp at e2
    · rw [List.getElem?_set_ne (Ne.symm hj)] at e2
      obtain ⟨u', r', q⟩ := hv j y v' e1 e2 e3
      refine ⟨u', r', ?_⟩
      rcases q with ⟨k, e⟩ | ⟨k, c, e, z⟩
      · refine .inl ⟨k, ?_⟩
        have : y ≠ n := fun e => hj (nodup_ix hN e1 (e ▸ hi))
        simp [this, e]
      · exact .inr ⟨k, c, e, z.sameBut hs (I.cne y c e)⟩
  · obtain ⟨w2, z2⟩ := I.cell y c e
    exact ⟨w2, z2.sameBut hs (I.cne y c e)⟩
  · obtain ⟨e, nn, ne, nf, d⟩ := I.pin p hp
    exact ⟨(hs.2 p.1 ne).trans e, nn, ne, nf, d⟩
theorem land_inv {s1 : Shared} {h' B : Heap} {H' : Hp} {e C : Addr} {a0 : Value} (I : Inv X pins σ H s) (os : s1.os = s.os) (bare : AllBare s1.gens) (un : Un (frs X.stack) [] H H' s.heap s1.heap) (hok : HOk X.prog X.w H' s1.heap)
    (f1 : B.StaysIn s1.heap) (fl : Heap.FlyingW B X.stack e (.ref C) a0 h') (up : s1.heap.UpToSlots h') (hT : ∀ b u, H' b = some u → ∃ o, B.get? b = some o) (hB : ∀ b o, s.heap.get? b = some o → b ∉ frs X.stack → ∃ o', B.get? b = some o') (he : s.heap.get? e = none) :
    Inv X pins σ (upd H' e (excO C e)) { s1 with heap := h' } := by
  have he' : H' e = none := by
    cases q : H' e with
    | none => rfl
    | some u =>
      obtain ⟨o, z⟩ := hT e u q
      rw [fl.2.1] at z; cases z
  have ne : ∀ b o, s.heap.get? b = some o → b ≠ e := fun b o q z => by rw [z, he] at q; cases q
  have neT : ∀ b u, H b = some u → b ≠ e := fun b u q => by
    obtain ⟨o, z⟩ := hok_there (I.hok b u q)
    exact ne b o z
  have slot : ∀ b o, s.heap.get? b = some o → b ∈ frs X.stack → ∃ sl, h'.get? b = some { o with slots := sl } := fun b o q hb => by
    obtain ⟨sl, q1⟩ := un.slot b o q (I.stkFree b hb) hb (by simp)
    obtain ⟨_, o2, ho2, hd⟩ := I.stack.mem hb
    rw [q] at ho2
    cases ho2
    obtain ⟨sl', z⟩ := up b _ q1 hd
    exact ⟨sl', z⟩
  obtain ⟨k1, k2, k3, oe, vs, T, oT, ts, hoe, ⟨hcls, h0⟩, hd, _⟩ := fl
  refine I.call' (s' := { s1 with heap := h' }) (ch := []) os ⟨fun b o q n hb _ => ?_, fun b o q n hb _ => slot b o q hb, fun b o q n _ => ?_, fun b o q _ => ?_, fun b xs q => ?_, fun b o u q => ?_, fun b ps q => ?_⟩ (fun b u q => ?_) bare fun b z => absurd z (by simp)
  · obtain ⟨o', z⟩ := hB b o q hb
    exact stay_by f1 k1 z (un.keep b o q n hb (by simp))
  · rw [upd_ne (ne b o q)]; exact un.free b o q n (by simp)
  · by_cases hb : b ∈ frs X.stack
    · obtain ⟨sl, z⟩ := slot b o q hb
      exact ⟨_, z⟩
    · obtain ⟨o', z⟩ := hB b o q hb
      exact ⟨o', k1 b o' z⟩
  · rw [upd_ne (neT b _ q)]; exact un.tups b xs q
  · rw [upd_ne (neT b _ q)]; exact un.frzs b o u q
  · rw [upd_ne (neT b _ q)]; exact un.tbls b ps q
  · by_cases hb : b = e
    · subst hb
      rw [upd_same] at q
      cases q
      exact ⟨⟨oe, hoe, hcls, vs, hd⟩, ⟨oe, hoe⟩, fun h1 h2 ⟨o, z, r⟩ st => ⟨o, st o z, r⟩⟩
    · rw [upd_ne hb] at q
      refine (hok b u q).stay (fun c v hc r => ?_) (fun c r => by rw [upd_ne (ne_of_none r he')]; exact r) fun c xs r => by rw [upd_ne (ne_of_none r he')]; exact r
      have ⟨o', z⟩ : ∃ o', B.get? c = some o' := by
        rcases hc with z | z
        · rw [z]; exact hT b u q
        · exact hT c _ z
      exact stay_by f1 k1 z r
end
theorem passG_never {X : Cx} {P : Program} {w : World} : PassG (CXE P w) X (fun _ _ _ _ => False) := fun pins σ H s e s' I h => by
  obtain ⟨_, _, _, _, _, _, _, _, _, _, _, _, _, _, hE⟩ := h
  exact hE.elim
section
variable {X : Cx} {c : Addr} {i : Nat} {x n : Str} {np hpos pos : Pos} {body suite : List Stmt} {b0 : Stmt} {tb : (St → XK) → TS} {ts : TS}
theorem ps_try (hst : X.stack = X.env :: X.outer) (hfr : X.env.frame = some X.env.locals) (hg : Gl X x) (hm : X.mg x = some (.ref c)) (hN : X.N.Nodup) (hi : X.N[i]? = some n) (hn : X.env.scope.names.lookup n = some .local)
    (hb : ∀ pn G, PSs (tryC X pn G) body (tb G)) (hs : ∀ pn e, PSs (hndC X pn e) (b0 :: suite) ts) (hdb : (x == ("__debug__" : Str)) = false := by decide) :
    PS X (.Try body [.ExceptHandler (some (.Name x np)) (some n) (b0 :: suite) hpos] [] [] pos) (tTry X.K c i tb ts) := by
  intro pins s σ H D I h
  refine wpAny_Try_except ?_
  have okT : ∀ G, (tryC X (X.pn ++ pins) G).Ok := fun G => ⟨I.ok.mod, I.ok.kind, I.ok.glob, I.ok.blt, I.ok.above, I.ok.inj, I.ok.has, I.ok.cab, I.ok.hd, I.ok.frames, I.ok.stk, I.ok.exf, I.ok.bs, I.ok.bsz, I.ok.noex, I.ok.exfs, I.ok.funs, I.ok.frf⟩
  have okH : ∀ e, (hndC X (X.pn ++ pins) e).Ok := fun e => ⟨I.ok.mod, I.ok.kind, I.ok.glob, I.ok.blt, I.ok.above, I.ok.inj, I.ok.has, I.ok.cab, fun z => (Bool.noConfusion z), I.ok.frames, I.ok.stk, I.ok.exf, I.ok.bs, I.ok.bsz, I.ok.noex, I.ok.exfs, I.ok.funs, I.ok.frf⟩
  have I0 : ∀ G, Inv (tryC X (X.pn ++ pins) G) [] σ H s := fun G => I.like (Y := tryC X (X.pn ++ pins) G) (okT G) rfl rfl rfl rfl rfl rfl rfl rfl fun p hp => I.pin p (by simpa [tryC] using hp)
  refine wpAny_mono (hb (X.pn ++ pins) _ [] s σ H D (I0 _) h) (fun f s1 q => ?_) (fun ev s1 q => ?_)
  · cases f with
    | next =>
      obtain ⟨σ', H', J, q⟩ := q
      exact wpAny_execs_nil ⟨σ', H', J.like (Y := X) I.ok rfl rfl rfl rfl rfl rfl rfl rfl fun p hp => J.pin p (by simpa [tryC] using hp), q⟩
    | brk =>
      obtain ⟨σ', H', J, q⟩ := q
      exact ⟨σ', H', J.like (Y := X) I.ok rfl rfl rfl rfl rfl rfl rfl rfl fun p hp => J.pin p (by simpa [tryC] using hp), q⟩
    | cont =>
      obtain ⟨σ', H', J, q⟩ := q
      exact ⟨σ', H', J.like (Y := X) I.ok rfl rfl rfl rfl rfl rfl rfl rfl fun p hp => J.pin p (by simpa [tryC] using hp), q⟩
    | ret u =>
      obtain ⟨v, σ', H', J, r, q⟩ := q
      exact ⟨v, σ', H', J.like (Y := X) I.ok rfl rfl rfl rfl rfl rfl rfl rfl fun p hp => J.pin p (by simpa [tryC] using hp), r, q⟩
  · obtain ⟨σ1, H1, s0, J, e, C, a0, B, H', rfl, os, bare, un, hok, fl, hT, hB, he, C', hC, hx, hts⟩ := q
    cases hC
    have he' : H' e = none := by
      cases q : H' e with
      | none => rfl
      | some u =>
        obtain ⟨o, z⟩ := hT e u q
        rw [fl.2.1] at z; cases z
    have hfrm : X.A.frames = some (X.env :: X.outer) := by rw [← hst]; exact I.ok.frames
    have fl0 : Heap.FlyingW B (X.env :: X.outer) e (.ref C) a0 s1.heap := by rw [← hst]; exact fl
    have toH : ∀ {σ2 : St} {H2 : Hp} {s2 : Shared}, Inv { X with pn := X.pn ++ pins, xe := fun _ _ => False } [] σ2 H2 s2 → Inv (hndC X (X.pn ++ pins) e) [] σ2 H2 s2 := fun {σ2 H2 s2} L =>
      L.like (Y := hndC X (X.pn ++ pins) e) (okH e) rfl rfl rfl rfl rfl rfl rfl rfl fun p hp => L.pin p (by simpa [hndC] using hp)
    have toX : ∀ {σ2 : St} {H2 : Hp} {s2 : Shared}, Inv (hndC X (X.pn ++ pins) e) [] σ2 H2 s2 → Inv X pins σ2 H2 s2 := fun {σ2 H2 s2} L =>
      L.like (Y := X) I.ok rfl rfl rfl rfl rfl rfl rfl rfl fun p hp => L.pin p (by simpa [hndC] using hp)
    have land : ∀ h', Heap.FlyingW B (X.env :: X.outer) e (.ref C) a0 h' → s1.heap.UpToSlots h' → Inv (hndC X (X.pn ++ pins) e) [] σ1 (upd H' e (excO C e)) { s1 with heap := h' } := fun h' f u =>
      toH (land_inv J os bare un hok fl.1 (by show Heap.FlyingW B X.stack e (.ref C) a0 h'; rw [hst]; exact f) u hT hB he)
    refine wpAny_looks_onW hfrm hfr fl0 fun h4 held4 up4 => ?_
    refine wpAny_landsW held4 fun h5 fl5 up5 => ?_
    have K5 := land h5 fl5 (up4.trans up5)
    refine wpAny_handleBy_cons (codeAny_handlers_test (ld_glob (X := hndC X (X.pn ++ pins) e) K5 hg hm ?_ hdb)) (by intro q; cases q)
    have LT : PySem.W.Looks (model X.prog X.w) h5 (typeOf (.ref e)) (.ref C) := by
      obtain ⟨ob, hob, hcl⟩ := fl5.there
      exact hcl ▸ (PySem.W.Looks.ld hob).andThen .now
    refine (PySem.W.exm_one (K := X.K) K5.kIn LT hx).here ?_
    refine codeAny_handlers_suite_as ?_
    refine lands_againW fl5 fun h6 fl6 up6 => ?_
    have K6 := land h6 fl6 (up4.trans (up5.trans up6))
    refine store_ok (X := hndC X (X.pn ++ pins) e) K6 hN hi (.inl hn) (v := .ref e) rfl (fun s7 K7 => ?_) (.inr hn)
    refine wpAny_mono (hs (X.pn ++ pins) e [] s7 (σ1.set i (some (.ref e))) _ _ K7 (hts e he')) (fun f s8 q8 => ?_) (fun _ _ z => z.elim)
    cases f with
    | next =>
      obtain ⟨σ8, H8, K8, q8⟩ := q8
      exact gone_ok (X := hndC X (X.pn ++ pins) e) K8 hN hi hn fun s9 K9 => ⟨_, _, toX K9, q8⟩
    | brk =>
      obtain ⟨σ8, H8, K8, q8⟩ := q8
      exact gone_ok (X := hndC X (X.pn ++ pins) e) K8 hN hi hn fun s9 K9 => ⟨_, _, toX K9, q8⟩
    | cont =>
      obtain ⟨σ8, H8, K8, q8⟩ := q8
      exact gone_ok (X := hndC X (X.pn ++ pins) e) K8 hN hi hn fun s9 K9 => ⟨_, _, toX K9, q8⟩
    | ret u =>
      obtain ⟨v, σ8, H8, K8, r8, q8⟩ := q8
      exact gone_ok (X := hndC X (X.pn ++ pins) e) K8 hN hi hn fun s9 K9 => ⟨_, _, _, toX K9, r8, q8⟩
end
end L2
set_option Elab.async false
set_option linter.all false
set_option maxRecDepth 100000
set_option maxHeartbeats 4000000
namespace L2
open PySem PySem.Spec PyProof.Rows
structure ExcA (K : PySem.W.Frag) (C : Addr) : Prop where
  ga : PySem.W.findIn K (.ref C) "__getattribute__" = some (some (.builtin "BaseException.__getattribute__"))
  gg : PySem.W.findIn K (.ref C) "__getattr__" = some none
  ca : PySem.W.findIn K (.ref C) "__class__" = some (some (.builtin "object.__class__"))
  sp : PySem.W.specialIn K (.builtin "object.__class__") "__get__" = some (some (.builtin "getset_descriptor.__get__"))
  tk : PySem.W.takesIn K (.builtin "object.__class__") = some true
  ob : PySem.W.mroIn K C (.type "object") = some true
  be : PySem.W.mroIn K C (.type "BaseException") = some true
section
variable {prog : Program} {w : World} {A : Around} {E : Value → Shared → Prop} {s : Shared} {K : PySem.W.Frag} {x C : Addr}
open PySem.W Builtin Builtin.ObjectAttr Builtin.Getset_descriptor in
theorem exc_class_get {R : Result → Shared → Prop} {tp : Value} (X : K.In s.heap) (L : Looks (model prog w) s.heap (typeOf (.ref x)) (.ref C)) (hm : mroIn K C (.type "object") = some true)
    (h : R (.ok (.ret (.ref C))) s) : codeAny (model prog w) A (.call (.builtin "getset_descriptor.__get__") ⟨[.builtin "object.__class__", .ref x, tp], []⟩) R s := by
  obtain ⟨hp, g, dr, t, os⟩ := s
  have L1 := looks_mroIn (M := model prog w) X hm
  refine (codeAny_call_builtin KF.slot_gs.plain KF.entry_gs (KF.slot_gs.check _ _ _ _ _ _ _ _ KF.type_class (KF.args_gs _ _ _) ?_))
  unfold Builtin.«getset_descriptor.__get__» descrGet
  rw [dga_obj]
  refine (wpAny_bind (wpAny_pure ?_))
  unfold descrGetter descrCheckInstance descrNameAndClass isInstance
  simp only [KF.owner_class]
  repeat lk
  refine ⟨Code.quiet_builtin _ (by decide +kernel), (codeAny_builtin KF.entry_class ?_)⟩
  unfold Builtin.«object.__class__» shownTypeOf
  repeat lk
  exact h
open PySem.W in
theorem exc_find {M : Model} {h : Heap} (X : K.In h) (q : ExcA K C) : Looks M h (Builtin.ObjectAttr.find (.ref x) (.ref C) "__class__") (.bind (.builtin "getset_descriptor.__get__") (.builtin "object.__class__")) := by
  have L1 := looks_findIn (M := M) X q.ca
  have L2 := looks_specialIn (M := M) X q.sp
  have L3 := looks_takesIn (M := M) X q.tk
  have L4 : Looks M h (Builtin.ObjectAttr.dataDescriptor? (some (.builtin "object.__class__")) (some (.builtin "getset_descriptor.__get__"))) (some (.builtin "getset_descriptor.__get__", .builtin "object.__class__")) := L3.andThen .now
  exact L1.andThen (L2.andThen (L4.andThen (Looks.tag .now)))
open PySem.W in
theorem exc_ga_body {tk : Tok} {Q : Fin → Shared → Prop} (X : K.In s.heap) (L : Looks (model prog w) s.heap (typeOf (.ref x)) (.ref C)) (q : ExcA K C) (h : Q (.done (.ret (.ref C))) s) :
    wpAny (model prog w) A (Builtin.«object.__getattribute__» ⟨[.ref x, .str "__class__" tk], []⟩) Q E s := by
  obtain ⟨hp, g, d, t, os⟩ := s
  have F1 := exc_find (M := model prog w) (x := x) X q
  unfold Builtin.«object.__getattribute__»
  refine wpAny_bind (wpAny_of_eq (a := (Value.ref x, [Value.str "__class__" tk])) (by rfl) ?_)
  refine wpAny_bind (wpAny_of_eq (a := ("__class__" : Str)) (by rfl) ?_)
  refine wpAny_bind (L.at (wpAny_bind (F1.at ?_)))
  show wpAny _ _ (Builtin.ObjectAttr.bindTo (.builtin "getset_descriptor.__get__") (.builtin "object.__class__") (.ref x) (.ref C)) _ _ _
  unfold Builtin.ObjectAttr.bindTo
  refine wpAny_bind (wpAny_holding (wpAny_call (exc_class_get X L q.ob ?_)))
  exact wpAny_pure h
theorem exc_check {M : Model} {nameV : Value} {Q : Unit → Shared → Prop} (L : PySem.W.Looks M s.heap (typeOf (.ref x)) (.ref C)) (LB : PySem.W.Looks M s.heap (isSubtype (.ref C) (.type "BaseException")) true) (hq : Q () s) :
    wpAny M A (checkBuiltinCall "BaseException.__getattribute__" ⟨[.ref x, nameV], []⟩) Q E s := by
  obtain ⟨hp, g, d, t, os⟩ := s
  have hk : builtinKind "BaseException.__getattribute__" = some .slot := by decide +kernel
  have hsplit : splitId "BaseException.__getattribute__" = some ("BaseException", "__getattribute__") := by decide +kernel
  have ha := F.args_bexc_ga (.ref x) nameV
  simp only [checkBuiltinCall, hk, hsplit]
  refine wpAny_bind ((L.andThen LB : PySem.W.Looks M hp (isInstance (.ref x) (.type "BaseException")) true).at ?_)
  repeat (any_goals (first | assumption | wp_step))
open PySem.W in
theorem exc_class {Q : Option Value → Shared → Prop} (X : K.In s.heap) (L : Looks (model prog w) s.heap (typeOf (.ref x)) (.ref C)) (q : ExcA K C) (h : Q (some (.ref C)) { s with toks := s.toks + 1 }) : wpAny (model prog w) A (getAttr? (.ref x) "__class__") Q E s := by
  obtain ⟨hp, g, d, t, os⟩ := s
  have L1 := looks_findIn (M := model prog w) X q.ga
  have L2 := looks_findIn (M := model prog w) X q.gg
  have L3 := looks_mroIn (M := model prog w) X q.be
  unfold getAttr? getAttrBy? getAttrBy
  refine wpAny_bind (wpAny_mkText (wpAny_bind (wpAny_attempt (wpAny_holding (wpAny_bind (L.at (wpAny_bind (L1.at ?_))))))))
  have e : (onTheHeap (Value.ref C) && Value.builtin "BaseException.__getattribute__" == Value.builtin "object.__getattribute__") = false := by
    have : (Value.builtin "BaseException.__getattribute__" == Value.builtin "object.__getattribute__") = false := by decide +kernel
    rw [this]; rfl
  dsimp only
  rw [e, if_neg Bool.false_ne_true]
  unfold getAttrByItsOwn hookBefore
  refine wpAny_bind ?_
  show wpAny _ _ (typeLookup (.ref C) "__getattr__") _ _ _
  refine L2.at ?_
  refine wpAny_bind (wpAny_attempt (wpAny_holding ?_))
  show wpAny _ _ (boundAndCalled (.builtin "BaseException.__getattribute__") (.ref x) (.str "__class__" t)) _ _ _
  unfold boundAndCalled
  refine wpAny_bind (wpAny_of_eq (F.attr_ValueError.ga.bind (.ref x)) ?_)
  show wpAny _ _ (call (.builtin "BaseException.__getattribute__") [.ref x, .str "__class__" t]) _ _ _
  refine wpAny_call (codeAny_call_builtin F.attr_ValueError.ga.plain F.entry_bexc_ga (exc_check L L3 (exc_ga_body X L q ?_)))
  exact wpAny_pure (wpAny_pure h)
theorem kitx_exc (q : ExcA K C) (hc : (PySem.W.clsIn K C).isSome = true) : PySem.W.KitX K (.ref x) (.ref C) (fun h => ∃ o, h.get? x = some o ∧ o.cls = .ref C) where
  ty := fun M h _ ⟨o, e, c⟩ => c ▸ (PySem.W.Looks.ld e).andThen .now
  it := fun M h X _ => by
    obtain ⟨cd, hcd⟩ := Option.isSome_iff_exists.mp hc
    unfold PySem.W.clsIn at hcd
    split at hcd
    · rename_i ho
      intro A' Q' E' s' k z
      unfold isType loadHead
      exact wpAny_bind (wpAny_loadPart (k _ _ (X _ _ ho)) (wpAny_pure z))
    · cases hcd
  ne := fun h tp dd its n sl X htp => by
    obtain ⟨cd, hcd⟩ := Option.isSome_iff_exists.mp hc
    refine Bool.eq_false_iff.mpr fun z => ?_
    have e : C = tp := Value.ref.inj (beq_iff_eq.mp z)
    subst e
    unfold PySem.W.clsIn at hcd
    split at hcd
    · rename_i ho
      have z2 := (X _ _ ho).symm.trans htp
      cases z2
    · cases hcd
  ca := fun X ⟨o, e, c⟩ k => exc_class X (c ▸ (PySem.W.Looks.ld e).andThen .now) q k
end
section
variable {X : Cx} {K : PySem.W.Frag}
theorem mro_cls {K : PySem.W.Frag} {C : Addr} {b : Value} {r : Bool} (e : PySem.W.mroIn K C b = some r) : (PySem.W.clsIn K C).isSome = true := by
  obtain ⟨cd, a, _⟩ := Option.bind_eq_some_iff.mp e
  rw [a]; rfl
theorem call_isiE (hK : X.K = K) : CallR X (.builtin "isinstance") (fun xs H Q => ∃ a C c cv b, xs = [.ref a, c] ∧ clsV c = some cv ∧ H a = some (excO C a) ∧ ExcA K C ∧ PySem.W.kitOne K (.ref C) cv = some b ∧ Q (.bl b) H) := by
  subst hK
  intro pins s σ H xs us Q I r h
  obtain ⟨a, C, c, cv, b, rfl, hc, hE, hA, e, q⟩ := h
  obtain ⟨u, u', rfl, r1, r2⟩ := vals2 r
  obtain rfl : u = Value.ref a := r1
  obtain rfl := clsV_rel hc r2
  obtain ⟨⟨o, ho, hcl, _⟩, _⟩ := (show ObjOk X.prog X.w H s.heap a (excO C a) from I.hok a _ hE)
  exact PySem.W.kia_one (kitx_exc hA (mro_cls hA.ob)) I.kIn ⟨o, ho, hcl⟩ e (fun z => nomatch z) fun tk => ⟨.bl b, H, I.tok tk, rfl, q⟩
end
end L2
set_option Elab.async false
set_option linter.all false
set_option maxRecDepth 100000
set_option maxHeartbeats 4000000
namespace L2
open PySem PySem.Spec PyProof.Rows
theorem SqB.t {K : PySem.W.Frag} {H : Hp} {a : Addr} {xs : List V} (h : SqT K H a xs) : SqB K true H a xs := h
theorem SqB.l {K : PySem.W.Frag} {H : Hp} {a : Addr} {xs : List V} (h : SqL K H a xs) : SqB K false H a xs := h
theorem SqB.or {K : PySem.W.Frag} {b : Bool} {H : Hp} {a : Addr} {xs : List V} (h : SqB K b H a xs) : SqL K H a xs ∨ SqT K H a xs := by
  cases b
  · exact .inl h
  · exact .inr h
section
variable {X : Cx} {K : PySem.W.Frag}
end
def tJoin (t : TS) : TS := fun D σ H => ∃ J : St → Hp → Prop, t { D with nx := J } σ H ∧ ∀ σ' H', J σ' H' → D.nx σ' H'
theorem ps_join {X : Cx} {st : Stmt} {t : TS} (h : PS X st t) : PS X st (tJoin t) := fun pins s σ H D I ⟨J, h1, h2⟩ => thn (h pins s σ H _ I h1) fun f s' q => by
  cases f with
  | next =>
    obtain ⟨σ', H', I', j⟩ := q
    exact ⟨σ', H', I', h2 σ' H' j⟩
  | brk => exact q
  | cont => exact q
  | ret u => exact q
theorem small9 {n : Nat} (h : n ≤ 1000000) : n < sizeLine := Nat.lt_of_le_of_lt h (by decide)
theorem cutI_in (ns : List Int) {lo hi : Int} (h0 : 0 ≤ lo) (h1 : lo ≤ hi) (h2 : hi ≤ (ns.length : Int)) : cutI ns (some lo) (some hi) = (ns.drop lo.toNat).take (hi - lo).toNat := by
  unfold cutI
  have e1 : HT.sIx ns.length 0 (some lo) = lo.toNat := by
    show (if lo < 0 then (lo + (ns.length : Int)).toNat else min lo.toNat ns.length) = lo.toNat
    rw [if_neg (by omega)]; omega
  have e2 : HT.sIx ns.length ns.length (some hi) = hi.toNat := by
    show (if hi < 0 then (hi + (ns.length : Int)).toNat else min hi.toNat ns.length) = hi.toNat
    rw [if_neg (by omega)]; omega
  rw [e1, e2]
  congr 1
  omega
section
variable {prog : Program} {w : World} {A : Around} {R : Result → Shared → Prop} {I : Addr} {fp wr : List Addr} {n : Nat} {P : Nat → Value → Prop} {St : Nat → Heap → Prop}
abbrev mxArgs (I S : Addr) (d : Value) : Args := ⟨[.ref I, .none, .ref S], [(Str.ofString "default", d)]⟩
theorem mx_name : (toString "max" ++ toString ".loop" : String) = "max.loop" := by decide
theorem mx_turns (W : Walks prog w A.in1 I fp wr n P St) (bt : Nat → Nat → Bool) (hcmp : CmpOf prog w A.in1 .Gt P bt) (S : Addr) (hSf : S ∉ fp) (d : Value) :
    ∀ (k j : Nat) (s : Shared) (vb : Value) (c : Nat), n - (j + 1) = k → j + 1 ≤ n → St (j + 1) s.heap → P (argBest bt j) vb → s.heap.get? S = some { cls := .type "list", dict := none, data := .seq #[vb, vb] c, slots := #[] } →
    (∀ v g tk, P (argBest bt (n - 1)) v → (∀ b o, b ∉ wr → b ≠ S → s.heap.get? b = some o → g.get? b = some o) → R (.ok (.ret v)) { s with heap := g, toks := tk }) → codeAny (model prog w) A (.builtin "max.loop" (mxArgs I S d)) R s := by
  have nw : S ∉ wr := fun q => hSf (W.sub _ q)
  intro k
  induction k with
  | zero =>
    intro j s vb c hk hj hst hb hS hR
    obtain rfl : j + 1 = n := by omega
    refine (codeAny_builtin F.entry_max_loop ?_)
    rw [Around.under_plainId F.plain_max_loop _]
    show wpAny _ A.in1 (seqItems? (Value.ref S) >>= _) _ _ s
    refine (wpAny_bind (wpAny_seqItems hS rfl ?_))
    show wpAny _ A.in1 (tryCatch (pyNext (Value.ref I)) _ >>= _) _ _ s
    refine wpAny_bind (wpAny_tryCatch (W.done s _ _ hst fun g tk kk => ?_))
    have hS1 := kk S _ nw hS
    show wpAny _ A.in1 (updateSeq S (fun _ => (#[] : Array Value)) >>= _) _ _ _
    refine wpAny_bind (wpAny_updateSeq hS1 rfl (wpAny_bind (wpAny_letGo (wpAny_pure ?_))))
    exact hR vb _ tk hb fun b o hbw hbS e => (Heap.get?_update_other _ _ (Ne.symm hbS)).trans (kk b o hbw e)
  | succ k ih =>
    intro j s vb c hk hj hst hb hS hR
    have hlt : j + 1 < n := by omega
    refine (codeAny_builtin F.entry_max_loop ?_)
    rw [Around.under_plainId F.plain_max_loop _]
    show wpAny _ A.in1 (seqItems? (Value.ref S) >>= _) _ _ s
    refine (wpAny_bind (wpAny_seqItems hS rfl ?_))
    show wpAny _ A.in1 (tryCatch (pyNext (Value.ref I)) _ >>= _) _ _ s
    refine wpAny_bind (wpAny_tryCatch (W.item (j + 1) s _ _ hlt hst fun v g tk hP st2 kk => ?_))
    have hS1 := kk S _ nw hS
    show wpAny _ A.in1 (tryCatch (holding [v, v] (richCompare CmpOp.Gt v vb >>= _)) _ >>= _) _ _ _
    refine wpAny_bind (wpAny_tryCatch (wpAny_holding (wpAny_bind (hcmp (j + 1) (argBest bt j) v vb _ _ _ hP hb ?_))))
    refine wpAny_bind (wpAny_holding (wpAny_truthy_bool (wpAny_bind (wpAny_letGo (wpAny_pure ?_)))))
    cases q : bt (j + 1) (argBest bt j) with
    | true =>
      simp only [if_true]
      refine (wpAny_bind (wpAny_updateSeq hS1 rfl (wpAny_bind (wpAny_letGo ?_))))
      rw [mx_name]
      refine wpAny_pure ⟨plainId_quiet F.plain_max_loop _, ih (j + 1) _ v _ (by omega) hlt (W.frame _ _ _ st2 fun b hbf o e => (Heap.get?_update_other _ _ (fun z : S = b => hSf (by rw [z]; exact hbf))).trans e) (by simp only [argBest, q, if_true]; exact hP) (Heap.get?_update_self _ hS1 rfl) fun v2 g2 tk2 hP2 kk2 => ?_⟩
      exact hR v2 g2 tk2 hP2 fun b o hbw hbS e => kk2 b o hbw hbS ((Heap.get?_update_other _ _ (Ne.symm hbS)).trans (kk b o hbw e))
    | false =>
      simp only [Bool.false_eq_true, if_false]
      refine (wpAny_bind (wpAny_letGo ?_))
      rw [mx_name]
      refine wpAny_pure ⟨plainId_quiet F.plain_max_loop _, ih (j + 1) _ vb c (by omega) hlt st2 (by simp only [argBest, q, Bool.false_eq_true, if_false]; exact hb) hS1 fun v2 g2 tk2 hP2 kk2 => ?_⟩
      exact hR v2 g2 tk2 hP2 fun b o hbw hbS e => kk2 b o hbw hbS (kk b o hbw e)
end
section
variable {prog : Program} {w : World} {A : Around} {E : Value → Shared → Prop} {s : Shared}
theorem mx_args (a v : Value) : argsOk "max" ⟨[a], [(Str.ofString "default", v)]⟩ := by unfold argsOk; kernel_rfl
theorem max_dflt {l : Addr} {xs : Array (Int × Tok)} {d : Value} {Q : Value → Shared → Prop} (hh : A.handled = none) (hl : s.heap.IsList l (intItems xs))
    (h : ∀ v g tk, ((xs.size = 0 ∧ v = d) ∨ (0 < xs.size ∧ (intItems xs)[argBest (fun i j => decide (numAt xs i > numAt xs j)) (xs.size - 1)]? = some v)) → (∀ b o, s.heap.get? b = some o → g.get? b = some o) → Q v { s with heap := g, toks := tk }) :
    wpAny (model prog w) A (call (.builtin "max") [.ref l] [(Str.ofString "default", d)]) Q E s := by
  refine PyProof.Rows.kmk_tree F.kind_max F.plain_max F.entry_max (mx_args _ _) ?_
  show wpAny _ A.in1 (Builtin.Builtins.bindParams "max" ["key", "default"] 0 ⟨[], [(Str.ofString "default", d)]⟩ >>= _) _ _ s
  refine wpAny_bind (wpAny_of_eq (show Builtin.Builtins.bindParams "max" ["key", "default"] 0 ⟨[], [(Str.ofString "default", d)]⟩ = pure [none, some d] from rfl) (wpAny_bind (wpAny_pure ?_)))
  refine wpAny_bind (iter_intList hl fun s2 e st hfp hlI => ?_)
  subst e
  refine wpAny_bind (wpAny_newObj_type ?_)
  have hSf : (s.heap.push { cls := .type "list_iterator", data := .fields #[.ref l, .int 0 0] }).objs.size ∉ [s.heap.objs.size, l] := fun q => Nat.lt_irrefl _ (hfp _ q)
  rw [mx_name]
  have W := Walks.list (prog := prog) (w := w) (A := A.in1) hh s.heap.objs.size l hlI (intItems xs)
  have nw : (s.heap.push { cls := .type "list_iterator", data := .fields #[.ref l, .int 0 0] }).objs.size ∉ [s.heap.objs.size] := fun q => hSf (W.sub _ q)
  have st1 := W.frame _ _ _ st fun b _ o e => Heap.get?_push_of_some ({ cls := .type "list", data := .seq ([] : List Value).toArray } : Obj) e
  have hS := Heap.get?_push_size (s.heap.push { cls := .type "list_iterator", data := .fields #[.ref l, .int 0 0] }) (o := ({ cls := .type "list", data := .seq ([] : List Value).toArray } : Obj)) rfl
  have old : ∀ g : Heap, (∀ b o, b ∉ [s.heap.objs.size] → b ≠ (s.heap.push { cls := .type "list_iterator", data := .fields #[.ref l, .int 0 0] }).objs.size → ((s.heap.push { cls := .type "list_iterator", data := .fields #[.ref l, .int 0 0] }).push { cls := .type "list", data := .seq ([] : List Value).toArray }).get? b = some o → g.get? b = some o) →
      ∀ b o, s.heap.get? b = some o → g.get? b = some o := fun g k b o e => by
    have lt := Heap.lt_size e
    refine k b o (fun q => ?_) (fun q => ?_) (Heap.get?_push_of_some _ (Heap.get?_push_of_some _ e))
    · exact absurd (List.mem_singleton.mp q) (Nat.ne_of_lt lt)
    · have z : (s.heap.push { cls := .type "list_iterator", data := .fields #[.ref l, .int 0 0] }).objs.size = s.heap.objs.size + 1 := Heap.size_push ..
      rw [q, z] at lt
      exact absurd lt (Nat.not_lt.mpr (Nat.le_succ _))
  refine (wpAny_pure ⟨plainId_quiet F.plain_max_loop _, ?_⟩)
  refine codeAny_builtin F.entry_max_loop (by
    rw [Around.under_plainId F.plain_max_loop _]
    show wpAny _ A.in1 (seqItems? (Value.ref _) >>= _) _ _ _
    refine wpAny_bind (wpAny_seqItems hS rfl ?_)
    show wpAny _ A.in1 (tryCatch (pyNext (Value.ref s.heap.objs.size)) _ >>= _) _ _ _
    by_cases hn : xs.size = 0
    · refine wpAny_bind (wpAny_tryCatch (W.done _ _ _ (by rw [show (intItems xs).size = 0 from by simpa [intItems] using hn]; exact st1) fun g tk kk => ?_))
      refine wpAny_bind (wpAny_rule (wpAny_pure ?_))
      exact h d g tk (.inl ⟨hn, rfl⟩) (old g fun b o q _ e => kk b o q e)
    · have hp : 0 < xs.size := by omega
      have hsz : (intItems xs).size = xs.size := by simp [intItems]
      refine wpAny_bind (wpAny_tryCatch (W.item 0 _ _ _ (by rw [hsz]; exact hp) st1 fun v g tk hP st2 kk => ?_))
      have hS1 := kk _ _ nw hS
      show wpAny _ A.in1 (updateSeq _ (fun _ => #[v, v]) >>= _) _ _ _
      refine wpAny_bind (wpAny_updateSeq hS1 rfl ?_)
      rw [mx_name]
      refine wpAny_pure ⟨plainId_quiet F.plain_max_loop _, mx_turns W _ (CmpOf.ints_gt (numAt xs) (fun _ _ => intItems_at)) _ hSf d _ 0 _ v _ rfl (by rw [hsz]; exact hp) (W.frame _ _ _ st2 fun b hbf o e => (Heap.get?_update_other _ _ (fun z => hSf (by rw [z]; exact hbf))).trans e) hP (Heap.get?_update_self _ hS1 rfl) fun v2 g2 tk2 hP2 kk2 => ?_⟩
      refine h v2 g2 tk2 (.inr ⟨hp, by simpa [hsz] using hP2⟩) (old g2 fun b o q1 q2 e => kk2 b o q1 q2 ((Heap.get?_update_other _ _ (Ne.symm q2)).trans (kk b o q1 e))))
end
def CallK1 (X : Cx) (id : String) (kw : Str) (r : List V → V → Hp → VK → Prop) : Prop :=
  ∀ (pins : List (Addr × Obj)) (s : Shared) (σ : St) (H : Hp) (xs : List V) (us : List Value) (z : V) (k : Value) (Q : VK), Inv X pins σ H s → Vals xs us → RelV z k → r xs z H Q →
    wpAny (model X.prog X.w) X.A (call (.builtin id) us [(kw, k)]) (EP X pins σ Q) X.xe s
def tCK (r : List V → V → Hp → VK → Prop) (t : TA) (te : TE) : TE := fun σ H Q => t σ H fun vs H1 => te σ H1 fun z H2 => r vs z H2 Q
section
variable {X : Cx} {x kw : Str} {p pos kpos : Pos} {e d : Expr} {es : List Expr} {t : TA} {te : TE} {id : String} {r : List V → V → Hp → VK → Prop}
theorem keeps_builtin {M : Model} {h : Heap} {id : String} (hk : keeperOf (.builtin id) = pure Keeper.machine) : ∃ k, (k = Keeper.frame ∨ k = Keeper.machine ∨ k = Keeper.boundFrame) ∧ PySem.W.Looks M h (keeperOf (.builtin id)) k :=
  ⟨_, .inr (.inl rfl), PySem.W.Looks.of_pure hk⟩
theorem pe_callBK (hc : CallK1 X id kw r) (hg : Gl X x) (hm : X.mg x = none) (hv : bootBuiltins x = some (.builtin id)) (ha : PA X (e :: es) t) (hd : PE X d te) (hmono : ∀ σ H (Q Q' : VK), (∀ v H', Q v H' → Q' v H') → te σ H Q → te σ H Q' := by intro σ H Q Q' m h; exact m _ _ h) (hkp : keeperOf (.builtin id) = pure Keeper.machine := by rfl) (hn : x ≠ "__name__" := by decide) (hdb : (x == ("__debug__" : Str)) = false := by decide)
    (he : starEach (e :: es) X.env = (false, eval e X.env) :: starEach es X.env := by rfl) (hpl : ((backTo pos (starEach (e :: es) X.env)).any (·.1) || (backToKw pos (keywordEach [⟨some kw, d, kpos⟩] X.env)).any (·.1.isNone)) = false := by rfl) :
    PE X (.Call (.Name x p) (e :: es) [⟨some kw, d, kpos⟩] pos) (tCK r t te) := by
  intro pins s σ H Q I h
  refine wpAny_Call_Name_kw (ld_blt I hg hm hv ?_ hn hdb)
  refine PySem.W.callWith_of (P := fun _ => True) hpl (fun h _ => keeps_builtin hkp) (evalArgs_kw2 (by rfl) (thn (ha pos pins s σ H _ I h) fun us s1 ⟨vs, H1, I1, r1, q1⟩ => ?_) he)
  have hk : PK X [⟨some kw, d, kpos⟩] (tCons te tNil) := pk_cons hd pk_nil
  refine thn (hk pos pins s1 σ H1 (fun zs H2 => ∃ z, zs = [z] ∧ r vs z H2 Q) I1 (show te σ H1 (fun z H2 => ∃ z', [z] = [z'] ∧ r vs z' H2 Q) from hmono σ H1 _ _ (fun z H2 h => ⟨z, rfl, h⟩) q1)) fun ks s2 ⟨zs, H2, I2, r2, z, hz, q2⟩ => ⟨trivial, ?_⟩
  subst hz
  obtain ⟨k, rfl, r3⟩ := vals1 r2
  exact hc pins s2 σ H2 vs us _ _ Q I2 r1 r3 q2
theorem call_maxD (hc : X.calm = true) : CallK1 X "max" "default" (fun xs z H Q => ∃ (a : Addr) (ns : List Int) (d : Int), xs = [.ref a] ∧ z = .int d ∧ SqL X.K H a (ns.map V.int) ∧ ∀ m, ((ns = [] ∧ m = d) ∨ (m ∈ ns ∧ ∀ b ∈ ns, b ≤ m)) → Q (.int m) H) := by
  intro pins s σ H xs us z k Q I r rz h
  obtain ⟨a, ns, d, rfl, rfl, hs, q⟩ := h
  obtain ⟨u, rfl, r1⟩ := vals1 r
  obtain rfl : u = Value.ref a := r1
  obtain ⟨td, rfl⟩ := rz
  obtain ⟨its, rv, p, hz⟩ := I.list hs
  obtain ⟨zs, e⟩ := (intsAre_of rv).allInts.items
  have hns : ns = zs.toList.map (·.1) := by rw [← (intsAre_of rv).numsOf, ← nums_intItems, ← e]
  have hlen : ns.length = zs.size := by rw [hns, List.length_map, Array.length_toList]
  have hl := p.isList
  rw [e] at hl
  refine max_dflt (I.ok.hd hc) hl fun v g tk hv hk => ?_
  rcases hv with ⟨h0, rfl⟩ | ⟨h0, hv⟩
  · exact ⟨.int d, H, I.kept hk, ⟨_, rfl⟩, q d (.inl ⟨List.length_eq_zero_iff.mp (by omega), rfl⟩)⟩
  · obtain ⟨t, rfl⟩ := intItems_at hv
    obtain ⟨h1, h2⟩ := argBest_gt (numAt zs) (zs.size - 1)
    have e3 : ∀ k, k < zs.size → numAt zs k ∈ ns := fun k hk => by
      rw [hns]
      refine List.mem_map.mpr ⟨zs[k], by simp, ?_⟩
      simp [numAt, hk]
    have e4 : ∀ b ∈ ns, ∃ k, k < zs.size ∧ numAt zs k = b := fun b hb => by
      rw [hns] at hb
      obtain ⟨y, hy, rfl⟩ := List.mem_map.mp hb
      obtain ⟨k, hk, hk2⟩ := List.getElem_of_mem hy
      have hk' : k < zs.size := by simpa using hk
      refine ⟨k, hk', ?_⟩
      simp [numAt, hk', ← hk2]
    refine ⟨.int (numAt zs (argBest (fun i j => decide (numAt zs i > numAt zs j)) (zs.size - 1))), H, I.kept hk, ⟨_, rfl⟩, q _ (.inr ⟨e3 _ (by omega), fun b hb => ?_⟩)⟩
    obtain ⟨k, hk1, rfl⟩ := e4 b hb
    exact h2 k (by omega)
end
end L2
set_option Elab.async false
set_option linter.all false
set_option maxRecDepth 100000
set_option maxHeartbeats 4000000
namespace L2
open PySem PySem.Spec PyProof.Rows
theorem DefAt.calX {P : Program} {w : World} {K : PySem.W.Frag} {mg : Str → Option Value} {base h : Heap} {x : Str} {st : Stmt} {ps : List Str} {k : Nat} {sp : Sp} (D : DefAt K x st) (X : K.In h) (G : h.Ns mainGlobals mg) (hb : BindAt x st ps) (mk : ∀ f fd, Fun K x x st f fd → FnOk P w K mg base (CXE P w) k f fd ps sp) : CalX P w K mg base k x ps sp := by
  obtain ⟨f, oc, od, osl, kV, doc, pm, an, cdv, ct, a, l, c, kk⟩ := D.ex
  have F := fun_mk (st := st) l c kk
  exact ⟨⟨f, _, mk f _ F, PySem.W.mg_of X G a, kk, F.binds hb⟩⟩
theorem pe_cls {X : Cx} {x : Str} {C : Addr} {pos : Pos} (hg : Gl X x) (hm : X.mg x = some (.ref C)) (hd : (x == ("__debug__" : Str)) = false := by decide) : PE X (.Name x pos) (tC (.ref C)) := pe_glob hg hm rfl hd
structure ClN (mg : Str → Option Value) (x : Str) (C : Addr) : Prop where
  g : mg x = some (.ref C)
end L2
namespace Mw
open PySem L2
end Mw
namespace Mw
open PySem L2
theorem at0 (x y : Int) : atI [V.int x, V.int y] 0 = some (.int x) := rfl
end Mw
set_option Elab.async false
set_option linter.all false
set_option maxRecDepth 100000
set_option maxHeartbeats 4000000
namespace L2
open PySem PySem.Spec PyProof.Rows
section
variable {X : Cx} {c : Addr} {x : Str} {np hpos pos : Pos} {body suite : List Stmt} {b0 : Stmt} {tb : (St → XK) → TS} {ts : TS}
end
structure FunD (K : PySem.W.Frag) (x qual : Str) (st : Stmt) (T : Addr) (ds : List Value) (f : Addr) (fd : FuncData) : Prop where
  ex : ∃ (oc : Value) (od : Option Addr) (kV doc pm : Value) (an : Option Addr) (cdv ct : Value) (osl : Array (Option Value)),
    fd = PySem.W.fnOf x qual (defArgs st) (defBody st) (defScope st) (.ref T) kV doc pm an cdv ct ∧ K.lookup f = some ⟨oc, od, .func fd, osl⟩ ∧ PySem.W.codeIn K cdv qual = true
  tu : ∃ (o : Obj) (n : Nat), K.lookup T = some o ∧ o.data = .seq ds.toArray n
  kp : PySem.W.keepIn K (.ref f) = true
theorem FunD.okX {P : Program} {w : World} {K : PySem.W.Frag} {mg : Str → Option Value} {base : Heap} {x qual : Str} {st : Stmt} {T : Addr} {ds : List Value} {f : Addr} {fd : FuncData} {N ps : List Str} {k : Nat} {sp : Sp} (F : FunD K x qual st T ds f fd) (S : FnScope N ps (defScope st)) (len : ∀ vs H Q E, sp vs H Q E → vs.length = ps.length)
    (hbody : ∀ (cdv : Value) (A : Around) (outer : List Env) (s : Shared) (H : Hp) (vs : List V) (Q : VK) (E : XK), Room k (A.deeper (envOfC qual (defScope st) s.heap.objs.size f cdv)) → sp vs H Q E →
      ∃ t, PSs (cxOf (CXE P w) P w K mg base N qual (defScope st) f cdv A outer s H E) (defBody st) t ∧ t { nx := fun _ H' => Q .non H', rt := Q } (start N vs) H) : FnOk P w K mg base (CXE P w) (k + 1) f fd ps sp := by
  obtain ⟨oc, od, kV, doc, pm, an, cdv, ct, osl, rfl, lk, hcd⟩ := F.ex
  exact fn_of lk hcd S len fun A outer s H vs Q E hr hsp => hbody cdv A outer s H vs Q E hr hsp
def BindD (x : Str) (st : Stmt) (ds : List Value) (us : List Value) (kw : List (Str × Value)) (bs : List (Str × Value)) : Prop := ∀ (T : Addr) (kV doc pm : Value) (an : Option Addr) (cdv ct : Value),
  ∃ k, bindArgs (PySem.W.fnOf x x (defArgs st) (defBody st) (defScope st) (.ref T) kV doc pm an cdv ct) ⟨us, kw⟩ = seqItems? (.ref T) >>= k ∧ k (some ds.toArray) = pure bs
theorem FunD.bindsTo {K : PySem.W.Frag} {x : Str} {st : Stmt} {T : Addr} {ds : List Value} {f : Addr} {fd : FuncData} (F : FunD K x x st T ds f fd) {us : List Value} {kw bs : List (Str × Value)} (h : BindD x st ds us kw bs) {s : Shared} (X : K.In s.heap) : BindsTo s fd ⟨us, kw⟩ bs := by
  obtain ⟨oc, od, kV, doc, pm, an, cdv, ct, osl, rfl, lk, hcd⟩ := F.ex
  obtain ⟨o, n, ht, hd⟩ := F.tu
  obtain ⟨k, h1, h2⟩ := h T kV doc pm an cdv ct
  exact .of_defaults (T := T) rfl (X _ _ ht) hd h1 h2
structure DefAtD (K : PySem.W.Frag) (x : Str) (st : Stmt) (vs : List V) : Prop where
  ex : ∃ (f T : Addr) (fd : FuncData) (ds : List Value), PySem.W.nsIn K mainGlobals x = some (some (.ref f)) ∧ FunD K x x st T ds f fd ∧ Vals vs ds
theorem defAtD {K : PySem.W.Frag} {x : Str} {st : Stmt} {f T : Addr} {oc tc : Value} {od td : Option Addr} {osl tsl : Array (Option Value)} {kV doc pm : Value} {an : Option Addr} {cdv ct : Value} {its : Array Value} {n : Nat} {vs : List V} (a : PySem.W.nsIn K mainGlobals x = some (some (.ref f)))
    (l : K.lookup f = some ⟨oc, od, .func (PySem.W.fnOf x x (defArgs st) (defBody st) (defScope st) (.ref T) kV doc pm an cdv ct), osl⟩) (t : K.lookup T = some ⟨tc, td, .seq its n, tsl⟩) (c : PySem.W.codeIn K cdv x = true) (k : PySem.W.keepIn K (.ref f) = true) (hv : ∃ ds : List Value, its = ds.toArray ∧ Vals vs ds) : DefAtD K x st vs := by
  obtain ⟨ds, e, hv⟩ := hv
  exact ⟨⟨f, T, _, ds, a, ⟨⟨oc, od, kV, doc, pm, an, cdv, ct, osl, rfl, l, c⟩, ⟨_, n, t, by rw [e]⟩, k⟩, hv⟩⟩
theorem DefAtD.calX {P : Program} {w : World} {K : PySem.W.Frag} {mg : Str → Option Value} {base h : Heap} {x : Str} {st : Stmt} {dv : V} {ps : List Str} {k : Nat} {sp : Sp} (D : DefAtD K x st [dv]) (X : K.In h) (G : h.Ns mainGlobals mg) (hb : ∀ d us, us.length = ps.length → BindD x st [d] us [] (ps.zip us))
    (mk : ∀ T ds f fd, FunD K x x st T ds f fd → FnOk P w K mg base (CXE P w) k f fd ps sp) : CalX P w K mg base k x ps sp := by
  obtain ⟨f, T, fd, ds, a, F, hv⟩ := D.ex
  refine ⟨⟨f, fd, mk _ _ _ _ F, PySem.W.mg_of X G a, F.kp, fun s us hK hl => ?_⟩⟩
  rw [List.append_nil] at hl ⊢
  obtain ⟨d, rfl, _⟩ := vals1 hv
  exact F.bindsTo (hb d us hl) hK
end L2
namespace L2
open PySem PySem.Spec PyProof.Rows
end L2
set_option Elab.async false
set_option linter.all false
set_option maxRecDepth 100000
set_option maxHeartbeats 4000000
namespace L2
open PySem PySem.Spec PyProof.Rows
def rBitLen : V → List V → Hp → VK → Prop := fun x vs H Q => ∃ n : Int, x = .int n ∧ vs = [] ∧ Q (.int (Builtin.Int.intBits n)) H
theorem mt_bitlen {X : Cx} : MtR X "int.bit_length" rBitLen := by
  intro pins s σ H x vs v us Q I rx rv h
  obtain ⟨n, rfl, rfl, q⟩ := h
  obtain ⟨t, rfl⟩ := rx
  cases rv
  exact call_int_bit_length ⟨.int _, H, I.tok _, ⟨_, rfl⟩, q⟩
structure CalD (P : Program) (w : World) (K : PySem.W.Frag) (mg : Str → Option Value) (base : Heap) (k : Nat) (x : Str) (ps : List Str) (sp : Sp) (dv : V) : Prop where
  ex : ∃ f fd ds, FnOk P w K mg base (CXE P w) k f fd ps sp ∧ mg x = some (.ref f) ∧ PySem.W.keepIn K (.ref f) = true ∧ Binds K fd ps ds ∧ Vals [dv] ds
def gK {α : Type} (us ws : List α) : List α := match us, ws with | [a, b], [c] => [a, b, c] | _, _ => []
structure CalK (P : Program) (w : World) (K : PySem.W.Frag) (mg : Str → Option Value) (base : Heap) (k : Nat) (x : Str) (ps : List Str) (ky : Str) (sp : Sp) : Prop where
  ex : ∃ f fd, FnOk P w K mg base (CXE P w) k f fd ps sp ∧ mg x = some (.ref f) ∧ PySem.W.keepIn K (.ref f) = true ∧ KBinds K fd ps [ky] gK gK
def tCallKG (sp : Sp) (G : St → XK) (t tk : TA) : TE := fun σ H Q => t σ H fun vs H1 => tk σ H1 fun zs H2 => sp (gK vs zs) H2 Q (G σ)
section
variable {X : Cx} {k : Nat} {ps : List Str} {sp : Sp} {dv : V} {G : St → XK} {x ky : Str} {p pos : Pos} {e : Expr} {es : List Expr} {kws : List Keyword} {t tk : TA}
theorem pe_calD (C : CalD X.prog X.w X.K X.mg X.base k x ps sp dv) (hr : Room k X.A) (hg : Gl X x) (hx : PassG (CXE X.prog X.w) X G) (ha : PA X (e :: es) t) (hdb : (x == ("__debug__" : Str)) = false := by decide)
    (he : starEach (e :: es) X.env = (false, eval e X.env) :: starEach es X.env := by rfl) (hpl : (backTo pos (starEach es X.env)).any (·.1) = false := by rfl) : PE X (.Call (.Name x p) (e :: es) [] pos) (tCallG sp [dv] G t) := by
  obtain ⟨f, fd, ds, F, m, kk, b, hd⟩ := C.ex
  intro pins s σ H Q I h
  refine wpAny_Call_Name_kw (ld_glob I hg m ?_ hdb)
  refine PySem.W.callWith_K (h₀ := X.base) I.ok.mod.kin kk (thn (ha pos pins s σ H _ I h) fun us s1 ⟨vs, H1, I1, r, q⟩ => ⟨I1.kIn, ?_⟩) he hpl
  exact run_fnG F hr b hd hx I1 r q
theorem pe_calK (C : CalK X.prog X.w X.K X.mg X.base k x ps ky sp) (hr : Room k X.A) (hg : Gl X x) (hx : PassG (CXE X.prog X.w) X G)
    (ha : PA X (e :: es) t) (hkw : PK X kws tk) (hall : (backToKw pos (keywordEach kws X.env)).all (·.1.isSome) = true := by rfl) (hks : (backToKw pos (keywordEach kws X.env)).filterMap (·.1) = [ky] := by rfl)
    (hdb : (x == ("__debug__" : Str)) = false := by decide) (he : starEach (e :: es) X.env = (false, eval e X.env) :: starEach es X.env := by rfl)
    (hpl : ((backTo pos (starEach (e :: es) X.env)).any (·.1) || (backToKw pos (keywordEach kws X.env)).any (·.1.isNone)) = false := by rfl) :
    PE X (.Call (.Name x p) (e :: es) kws pos) (tCallKG sp G t tk) := by
  obtain ⟨f, fd, F, m, kk, hb⟩ := C.ex
  intro pins s σ H Q I h
  refine wpAny_Call_Name_kw (ld_glob I hg m ?_ hdb)
  refine PySem.W.callWith_KW (h₀ := X.base) I.ok.mod.kin kk hall (thn (ha pos pins s σ H _ I h) fun us s1 ⟨vs, H1, I1, r, q⟩ => ?_) hpl he
  refine thn (hkw pos pins s1 σ H1 _ I1 q) fun ws s2 ⟨zs, H2, I2, rz, q2⟩ => ⟨I2.kIn, ?_⟩
  rw [hks]
  have r2 := hb.rel r rz
  have hl : (gK us ws).length = ps.length := by rw [← r2.length]; exact F.len _ _ _ _ q2
  refine wpAny_call (codeAny_mono (F.run X.A X.stack s2 H2 ⟨us, [ky].zip ws⟩ (gK us ws) (gK vs zs) Q (G σ) hr I2.env0 (hb.to s2 us ws I2.kIn hl) r2 q2) fun r s' hq => ?_)
  cases r with
  | error e => exact hx pins σ H2 s2 e s' I2 hq
  | ok fl =>
    cases fl with
    | ret u => exact I2.after hq
    | next => exact False.elim hq
    | brk => exact False.elim hq
    | cont => exact False.elim hq
end
section
variable {P : Program} {w : World} {K : PySem.W.Frag} {mg : Str → Option Value} {base h : Heap} {x : Str} {st : Stmt} {dv : V} {ps : List Str} {k : Nat} {sp : Sp} {ky : Str}
theorem DefAtD.calD (D : DefAtD K x st [dv]) (X : K.In h) (G : h.Ns mainGlobals mg) (hb : ∀ d us, us.length + 1 = ps.length → BindD x st [d] us [] (ps.zip (us ++ [d])))
    (mk : ∀ T ds f fd, FunD K x x st T ds f fd → FnOk P w K mg base (CXE P w) k f fd ps sp) : CalD P w K mg base k x ps sp dv := by
  obtain ⟨f, T, fd, ds, a, F, hv⟩ := D.ex
  refine ⟨⟨f, fd, ds, mk _ _ _ _ F, PySem.W.mg_of X G a, F.kp, fun s us hK hl => ?_, hv⟩⟩
  obtain ⟨d, rfl, _⟩ := vals1 hv
  rw [List.length_append, List.length_singleton] at hl
  exact F.bindsTo (hb d us hl) hK
theorem gK_rel {vs : List V} {us : List Value} {zs : List V} {ws : List Value} (h1 : Vals vs us) (h2 : Vals zs ws) : Vals (gK vs zs) (gK us ws) := by
  rcases h1 with _ | ⟨r1, _ | ⟨r2, _ | ⟨r3, h3⟩⟩⟩
  · exact .nil
  · exact .nil
  · rcases h2 with _ | ⟨q1, _ | ⟨q2, h4⟩⟩
    · exact .nil
    · exact .cons r1 (.cons r2 (.cons q1 .nil))
    · exact .nil
  · exact .nil
theorem DefAtD.calK (D : DefAtD K x st [dv]) (X : K.In h) (G : h.Ns mainGlobals mg) (hp : ps.length = 3) (hb : ∀ d a b c, BindD x st [d] [a, b] [(ky, c)] (ps.zip [a, b, c]))
    (mk : ∀ T ds f fd, FunD K x x st T ds f fd → FnOk P w K mg base (CXE P w) k f fd ps sp) : CalK P w K mg base k x ps ky sp := by
  obtain ⟨f, T, fd, ds, a, F, hv⟩ := D.ex
  refine ⟨⟨f, fd, mk _ _ _ _ F, PySem.W.mg_of X G a, F.kp, ⟨fun s us ws hK hl => ?_, gK_rel⟩⟩⟩
  obtain ⟨d, rfl, _⟩ := vals1 hv
  rw [hp] at hl
  match us, ws with
  | [a, b], [c] => exact F.bindsTo (hb d a b c) hK
  | [], _ => cases hl
  | [_], _ => cases hl
  | [_, _], [] => cases hl
  | [_, _], _ :: _ :: _ => cases hl
  | _ :: _ :: _ :: _, _ => cases hl
end
end L2
set_option Elab.async false
set_option linter.all false
set_option maxRecDepth 100000
set_option maxHeartbeats 4000000
namespace L2
open PySem PySem.Spec PyProof.Rows
theorem FnOk.toX {P : Program} {w : World} {K : PySem.W.Frag} {mg : Str → Option Value} {base : Heap} {CX : CXT} {k : Nat} {f : Addr} {fd : FuncData} {ps : List Str} {sp : Sp} (F : FnOk P w K mg base CX0 k f fd ps sp) : FnOk P w K mg base CX k f fd ps sp :=
  ⟨F.len, fun A outer s H args us vs Q E hr he hb hv hs => codeAny_mono (F.run A outer s H args us vs Q E hr he hb hv hs) fun r s' h => by
    cases r with
    | error e => exact h.elim
    | ok fl => cases fl <;> exact h⟩
theorem Cal.toX {P : Program} {w : World} {K : PySem.W.Frag} {mg : Str → Option Value} {base : Heap} {k : Nat} {x : Str} {ps : List Str} {sp : Sp} (c : Cal P w K mg base k x ps sp) : CalX P w K mg base k x ps sp := by
  obtain ⟨f, fd, F, m, kk, b⟩ := c.ex
  exact ⟨⟨f, fd, F.toX, m, kk, b⟩⟩
def SpOf (C : Addr) (sp : Sp) : Sp := fun vs H Q E => (∃ (a : Addr) (us : List V) (dx : Addr) (fs : List (Str × V)), vs = .ref a :: us ∧ H a = some (.ins C dx fs)) ∧ sp vs H Q E
def SpInit (C : Addr) (sp : Sp) : Sp := fun vs H Q E => ∃ (x dx : Addr) (us : List V) (H1 : Hp), vs = .ref x :: us ∧ H1 x = none ∧ H1 dx = none ∧ dx ≠ x ∧ H = upd (upd H1 dx (.own x)) x (.ins C dx []) ∧ sp us H1 (fun v H2 => v = .ref x → Q .non H2) E
def SpMono (sp : Sp) : Prop := ∀ vs H (Q Q' : VK) E, (∀ v H, Q v H → Q' v H) → sp vs H Q E → sp vs H Q' E
structure NCal (P : Program) (w : World) (K : PySem.W.Frag) (mg : Str → Option Value) (base : Heap) (k : Nat) (x : Str) (ps : List Str) (sp : Sp) : Prop where
  ex : ∃ C f fd, Mk K C f ∧ mg x = some (.ref C) ∧ FnOk P w K mg base (CXE P w) k f fd ps (SpInit C sp) ∧ Binds K fd ps []
  mono : SpMono sp
structure BCal (P : Program) (w : World) (K : PySem.W.Frag) (mg : Str → Option Value) (base : Heap) (k : Nat) (x m : Str) (ps : List Str) (sp : Sp) : Prop where
  ex : ∃ C mc f fd, mg x = some (.ref C) ∧ PySem.W.specialIn K (.ref C) "__getattribute__" = some (some (.builtin "type.__getattribute__")) ∧ PySem.W.readsIn K C mc = true ∧
    PySem.W.findCls K (.ref C) mc m = some (.val (.ref f)) ∧ PySem.W.keepIn K (.ref f) = true ∧ FnOk P w K mg base (CXE P w) k f fd ps sp ∧ Binds K fd ps []
section
variable {X : Cx} {k : Nat} {f C : Addr} {fd : FuncData} {ps : List Str} {sp : Sp} {G : St → XK} {Kd : Addr → Prop} {x m : Str} {p pos apos : Pos} {e o : Expr} {es : List Expr} {ta : TE} {t : TA}
end
theorem comp_range {lo : Int} {n : Nat} {fr : List (Option Nat)} {g : TG} {tc : TT} {te : TE} {D : Addr} {σ : St} {H1 : Hp} {Q : VK} (Pv : Nat → List V → Hp → Prop) (h0 : Pv 0 [] (upd H1 D (.lst [])))
    (hD : ∀ i ys H, i ≤ n → Pv i ys H → H D = some (.lst ys) ∧ ys.length ≤ i) (hn : n ≤ sizeLine)
    (hs : ∀ i ys H, i < n → Pv i ys H → g (.int (lo + i)) (carry fr σ) H fun σ2 H2 => Wk (carry fr σ) σ2 ∧ tc σ2 H2 fun b H3 => if b = true then te σ2 H3 fun y H4 => H4 D = some (.lst ys) ∧ Pv (i + 1) (ys ++ [y]) (upd H4 D (.lst (ys ++ [y]))) else Pv (i + 1) ys H3)
    (hd : ∀ ys H, Pv n ys H → Q (.ref D) H) : tTurns fr g tc te D (Itr lo n) σ H1 Q := by
  refine comp_seq (n := n) Pv h0 hD (fun i ys H hi p => hi) (fun ys H p => Nat.le_refl _) hn (fun i ys H x H' hi p y => ?_) hd
  obtain ⟨e, y⟩ := y
  subst e y
  exact hs i ys _ hi p
structure ClsAt (K : PySem.W.Frag) (mg : Str → Option Value) (x : Str) (C : Addr) : Prop where
  cl : Cls K C
  makes : PySem.W.makesIn K C = true
  kp : PySem.W.keepIn K (.ref C) = true
  g : mg x = some (.ref C)
structure MethAt (K : PySem.W.Frag) (C : Addr) (m qual : Str) (st : Stmt) : Prop where
  ex : ∃ f fd, Meth K C m f ∧ Fun K m qual st f fd
structure BaseAt (K : PySem.W.Frag) (C : Addr) (m qual : Str) (st : Stmt) : Prop where
  ex : ∃ f fd, PySem.W.specialIn K (.ref C) "__getattribute__" = some (some (.builtin "type.__getattribute__")) ∧ PySem.W.readsIn K C (.type "type") = true ∧ PySem.W.findCls K (.ref C) (.type "type") m = some (.val (.ref f)) ∧ Fun K m qual st f fd
structure ExR (K : PySem.W.Frag) (mg : Str → Option Value) (x : Str) (C : Addr) : Prop where
  c : ExcC K C
  g : mg x = some (.ref C)
def BindQ (x qual : Str) (st : Stmt) (ps : List Str) : Prop := ∀ (kV doc pm : Value) (an : Option Addr) (cdv ct : Value) (us : List Value), us.length = ps.length → bindArgs (PySem.W.fnOf x qual (defArgs st) (defBody st) (defScope st) .none kV doc pm an cdv ct) ⟨us, []⟩ = pure (ps.zip us)
section
variable {P : Program} {w : World} {K : PySem.W.Frag} {mg : Str → Option Value} {base : Heap} {C : Addr} {x m qual : Str} {st : Stmt} {ps : List Str} {k : Nat} {sp : Sp}
theorem MethAt.use (h : MethAt K C m qual st) (c : Cls K C) (hb : BindQ m qual st ps) (ok : ∀ f fd, Fun K m qual st f fd → FnOk P w K mg base (CXE P w) k f fd ps (SpOf C sp)) : Cls K C ∧ ∃ f fd, Meth K C m f ∧ FnOk P w K mg base (CXE P w) k f fd ps (SpOf C sp) ∧ Binds K fd ps [] := by
  obtain ⟨f, fd, M, F⟩ := h.ex
  exact ⟨c, f, fd, M, ok f fd F, F.binds hb⟩
theorem ClsAt.new (c : ClsAt K mg x C) (h : MethAt K C "__init__" qual st) (hb : BindQ "__init__" qual st ps) (mo : SpMono sp) (ok : ∀ f fd, Fun K "__init__" qual st f fd → FnOk P w K mg base (CXE P w) k f fd ps (SpInit C sp)) : NCal P w K mg base k x ps sp := by
  obtain ⟨f, fd, M, F⟩ := h.ex
  exact ⟨⟨C, f, fd, ⟨c.makes, M.at_, M.fn, c.kp⟩, c.g, ok f fd F, F.binds hb⟩, mo⟩
theorem BaseAt.use (g : mg x = some (.ref C)) (h : BaseAt K C m qual st) (hb : BindQ m qual st ps) (ok : ∀ f fd, Fun K m qual st f fd → FnOk P w K mg base (CXE P w) k f fd ps sp) : BCal P w K mg base k x m ps sp := by
  obtain ⟨f, fd, h1, h2, h3, F⟩ := h.ex
  exact ⟨⟨C, _, f, fd, g, h1, h2, h3, F.kp, ok f fd F, F.binds hb⟩⟩
end
end L2
set_option linter.all false
namespace Mw
def dot (xs ys : List Int) : Int := (List.zipWith (· * ·) xs ys).sum
theorem zip_get {xs ys : List Int} {i : Nat} {x y : Int} (h1 : xs[i]? = some x) (h2 : ys[i]? = some y) : (List.zipWith (· * ·) xs ys)[i]? = some (x * y) := by
  rw [List.getElem?_zipWith, h1, h2]
theorem dot_snoc : ∀ (xs ys : List Int) (a b : Int), xs.length = ys.length → dot (xs ++ [a]) (ys ++ [b]) = dot xs ys + a * b
  | [], [], a, b, _ => by unfold dot; simp
  | [], y :: ys, a, b, h => by simp at h
  | x :: xs, [], a, b, h => by simp at h
  | x :: xs, y :: ys, a, b, h => by
    have ih := dot_snoc xs ys a b (by simpa using h)
    unfold dot at *
    simp only [List.cons_append, List.zipWith_cons_cons, List.sum_cons]
    rw [ih, Int.add_assoc]
theorem dot_self_nonneg : ∀ xs : List Int, 0 ≤ dot xs xs
  | [] => by unfold dot; simp
  | x :: xs => by
    have ih := dot_self_nonneg xs
    have hx : 0 ≤ x * x := by
      rcases Int.le_total 0 x with h | h
      · exact Int.mul_nonneg h h
      · exact Int.mul_nonneg_of_nonpos_of_nonpos h h
    unfold dot at *
    simp only [List.zipWith_cons_cons, List.sum_cons]
    omega
def maxF (ns : List Int) : Int := ns.foldl (fun m n => if n > m then n else m) 0
theorem maxG : ∀ (ns : List Int) (d : Int), d ≤ ns.foldl (fun m n => if n > m then n else m) d ∧ (∀ n ∈ ns, n ≤ ns.foldl (fun m n => if n > m then n else m) d) ∧ (ns.foldl (fun m n => if n > m then n else m) d = d ∨ ns.foldl (fun m n => if n > m then n else m) d ∈ ns)
  | [], d => ⟨Int.le_refl _, fun _ h => absurd h (by simp), .inl rfl⟩
  | n :: r, d => by
    rw [List.foldl_cons]
    obtain ⟨h1, h2, h3⟩ := maxG r (if n > d then n else d)
    have e : d ≤ (if n > d then n else d) ∧ n ≤ (if n > d then n else d) ∧ ((if n > d then n else d) = d ∨ (if n > d then n else d) = n) := by
      split <;> omega
    refine ⟨by omega, fun x hx => ?_, ?_⟩
    · rcases List.mem_cons.mp hx with z | z
      · rw [z]; omega
      · exact h2 x z
    · rcases h3 with z | z
      · rw [z]
        rcases e.2.2 with q | q
        · exact .inl q
        · exact .inr (by rw [q]; exact List.mem_cons_self)
      · exact .inr (List.mem_cons_of_mem _ z)
theorem maxF_eq {ns : List Int} {m : Int} (h0 : ∀ n ∈ ns, 0 ≤ n) (h : (ns = [] ∧ m = 0) ∨ (m ∈ ns ∧ ∀ b ∈ ns, b ≤ m)) : m = maxF ns := by
  obtain ⟨h1, h2, h3⟩ := maxG ns 0
  rcases h with ⟨rfl, rfl⟩ | ⟨hm, hu⟩
  · rfl
  · have a1 := h2 m hm
    have a2 := h0 m hm
    show m = ns.foldl (fun m n => if n > m then n else m) 0
    rcases h3 with z | z
    · omega
    · have := hu _ z
      omega
end Mw
set_option linter.all false
namespace Mw
def turnF (n s : Int) : Int := if s = 1 then n else -n
def gaps (ws : List Int) (rs : List (List Int × Int)) : List Int := rs.map fun r => turnF (dot ws (r.1 ++ [1])) r.2
theorem last_split {ws : List Int} {m : Nat} (h : ws.length = m + 1) : ∃ us c, ws = us ++ [c] ∧ us.length = m := by
  have hne : ws ≠ [] := fun z => by rw [z] at h; simp at h
  refine ⟨ws.dropLast, ws.getLast hne, (List.dropLast_concat_getLast hne).symm, ?_⟩
  rw [List.length_dropLast]; omega
end Mw
set_option Elab.async false
set_option linter.all false
set_option maxRecDepth 100000
set_option maxHeartbeats 4000000
namespace Mw
open PySem L2
def spProd (K : PySem.W.Frag) : Sp := fun vs H Q _ => ∃ (a b : Addr) (b1 b2 : Bool) (xs ys : List Int), vs = [.ref a, .ref b] ∧ SqB K b1 H a (xs.map V.int) ∧ SqB K b2 H b (ys.map V.int) ∧ xs.length ≤ 1000 ∧ (∀ x ∈ xs, Bits 1000 x) ∧ (∀ y ∈ ys, Bits 1000 y) ∧
  ∀ H', Same H H' → Q (.int (dot xs ys)) H'
def spLift (K : PySem.W.Frag) : Sp := fun vs H Q _ => ∃ (a : Addr) (xs : List Int), vs = [.ref a] ∧ SqT K H a (xs.map V.int) ∧ xs ≠ [] ∧ xs.length ≤ 900 ∧ ∀ r H', Same H H' → H r = none → H' r = some (.tup ((xs ++ [1]).map V.int)) → Q (.ref r) H'
def spTold (K : PySem.W.Frag) : Sp := fun vs H Q _ => ∃ (a b : Addr) (b1 : Bool) (ws xs : List Int), vs = [.ref a, .ref b] ∧ SqB K b1 H a (ws.map V.int) ∧ SqT K H b (xs.map V.int) ∧ xs ≠ [] ∧ xs.length ≤ 900 ∧ ws.length ≤ 1000 ∧ (∀ x ∈ ws, Bits 1000 x) ∧ (∀ y ∈ xs, Bits 1000 y) ∧
  ∀ H', Same H H' → Q (.int (dot ws (xs ++ [1]))) H'
def spSquare (K : PySem.W.Frag) : Sp := fun vs H Q _ => ∃ (a : Addr) (b1 : Bool) (xs : List Int), vs = [.ref a] ∧ SqB K b1 H a (xs.map V.int) ∧ xs.length ≤ 1000 ∧ (∀ x ∈ xs, Bits 1000 x) ∧ ∀ H', Same H H' → Q (.int (dot xs xs)) H'
def cellF (ns : List Int) (k : Nat) : Int := ns.getD k 0
theorem at_cell {ns : List Int} {k : Int} (h0 : 0 ≤ k) (h : k < (ns.length : Int)) : atI (ns.map V.int) k = some (.int (cellF ns k.toNat)) := by
  have e : k = (k.toNat : Int) := by omega
  have hk : k.toNat < ns.length := by omega
  rw [e, Int.toNat_natCast]
  refine atI_nat ?_
  rw [List.getElem?_map, List.getElem?_eq_getElem hk]
  unfold cellF
  simp [hk]
theorem cell_out {ns : List Int} {k : Int} (h0 : 0 ≤ k) (h : ¬ k < (ns.length : Int)) : cellF ns k.toNat = 0 := by
  unfold cellF
  rw [List.getD_eq_getElem?_getD, List.getElem?_eq_none (by omega)]; rfl
def spCell (K : PySem.W.Frag) : Sp := fun vs H Q _ => ∃ (a : Addr) (ns : List Int) (k : Int), vs = [.ref a, .int k] ∧ SqL K H a (ns.map V.int) ∧ 0 ≤ k ∧ Q (.int (cellF ns k.toNat)) H
def spIs : Sp := fun vs H Q _ => ∃ n : Int, vs = [.int n, .int n] ∧ Q (.bl true) H
theorem bits_low {x : Int} {n : Nat} (h1 : -1000 ≤ x) (h2 : x ≤ 1000) (hn : 10 ≤ n) : Bits n x := by
  refine Bits.mono (n := 10) ?_ hn
  show x.natAbs < 2 ^ 10
  have e : (2 : Nat) ^ 10 = 1024 := by decide
  omega
theorem bits_snoc {n : Nat} {xs : List Int} (hn : 10 ≤ n) (h : ∀ x ∈ xs, Bits n x) : ∀ x ∈ xs ++ [1], Bits n x := fun x hx => by
  rcases List.mem_append.mp hx with z | z
  · exact h x z
  · rw [List.mem_singleton.mp z]; exact bits_low (by decide) (by decide) hn
def RowsAt (K : PySem.W.Frag) (H : Hp) (as : List Addr) (rs : List (List Int × Int)) : Prop := Paired (fun a r => ∃ p, SqT K H a [.ref p, .int r.2] ∧ SqT K H p (r.1.map V.int)) as rs
theorem RowsAt.same {K : PySem.W.Frag} {H H' : Hp} {as : List Addr} {rs : List (List Int × Int)} (e : Same H H') (h : RowsAt K H as rs) : RowsAt K H' as rs := Paired.mapP h fun _ _ ⟨p, q1, q2⟩ => ⟨p, e.seqT q1, e.seqT q2⟩
structure RowsOk (m : Nat) (rs : List (List Int × Int)) : Prop where
  pos : 0 < m
  few : m ≤ 4
  len : rs.length ≤ 200
  cnt : ∀ r ∈ rs, r.1.length = m
  low : ∀ r ∈ rs, ∀ x ∈ r.1, -1000 ≤ x ∧ x ≤ 1000
  sid : ∀ r ∈ rs, r.2 = 0 ∨ r.2 = 1
theorem RowsOk.bits {m : Nat} {rs : List (List Int × Int)} (h : RowsOk m rs) {r : List Int × Int} (hr : r ∈ rs) {n : Nat} (hn : 10 ≤ n) : ∀ x ∈ r.1, Bits n x := fun x hx => bits_low (h.low r hr x hx).1 (h.low r hr x hx).2 hn
theorem RowsOk.ne {m : Nat} {rs : List (List Int × Int)} (h : RowsOk m rs) {r : List Int × Int} (hr : r ∈ rs) : r.1 ≠ [] := fun z => by
  have := h.cnt r hr
  have := h.pos
  rw [z] at *
  simp at *
  omega
def farF (rs : List (List Int × Int)) : Int := maxF (rs.map fun r => dot (r.1 ++ [1]) (r.1 ++ [1]))
theorem at_k {xs : List V} {k : Nat} {z : Int} {v : V} (h : xs[k]? = some v) (hz : z = (k : Int)) : atI xs z = some v := by
  subst hz; exact atI_nat h
structure WOk (ws : List Int) : Prop where
  len : ws.length ≤ 1000
  bits : ∀ x ∈ ws, Bits 1000 x
def spTurned : Sp := fun vs H Q _ => ∃ n s : Int, vs = [.int n, .int s] ∧ Q (.int (turnF n s)) H
def RW (K : PySem.W.Frag) (vs : List V) (H : Hp) (m : Nat) (rs : List (List Int × Int)) (ws : List Int) : Prop := ∃ (a b : Addr) (as : List Addr), vs = [.ref a, .ref b] ∧ SqL K H a (as.map V.ref) ∧ RowsAt K H as rs ∧ RowsOk m rs ∧ SqT K H b (ws.map V.int) ∧ WOk ws
def spTurnedAll (K : PySem.W.Frag) : Sp := fun vs H Q _ => ∃ m rs ws, RW K vs H m rs ws ∧ ∀ r H', Same H H' → H r = none → H' r = some (.lst ((gaps ws rs).map V.int)) → Q (.ref r) H'
def spParted (K : PySem.W.Frag) : Sp := fun vs H Q _ => ∃ m rs ws, RW K vs H m rs ws ∧ ∀ H', Same H H' → Q (.bl ((gaps ws rs).all fun n => decide (0 < n))) H'
def spGap (K : PySem.W.Frag) : Sp := fun vs H Q _ => ∃ m rs ws, RW K vs H m rs ws ∧ rs ≠ [] ∧ ∀ z H', Same H H' → z ∈ gaps ws rs → (∀ b ∈ gaps ws rs, z ≤ b) → Q (.int z) H'
theorem gaps_length (ws : List Int) (rs : List (List Int × Int)) : (gaps ws rs).length = rs.length := by unfold gaps; rw [List.length_map]
theorem paired_append {α β : Type} {R : α → β → Prop} : ∀ {as as' : List α} {bs bs' : List β}, Paired R as bs → Paired R as' bs' → Paired R (as ++ as') (bs ++ bs')
  | _, _, _, _, .nil, h => h
  | _, _, _, _, .cons r t, h => .cons r (paired_append t h)
theorem paired_take {α β : Type} {R : α → β → Prop} : ∀ {as : List α} {bs : List β} (n : Nat), Paired R as bs → Paired R (as.take n) (bs.take n)
  | _, _, 0, _ => by rw [List.take_zero, List.take_zero]; exact .nil
  | _, _, _ + 1, .nil => .nil
  | _, _, n + 1, .cons r t => .cons r (paired_take n t)
theorem paired_drop {α β : Type} {R : α → β → Prop} : ∀ {as : List α} {bs : List β} (n : Nat), Paired R as bs → Paired R (as.drop n) (bs.drop n)
  | _, _, 0, h => h
  | _, _, _ + 1, .nil => .nil
  | _, _, n + 1, .cons _ t => paired_drop n t
def cutL {α : Type} (xs : List α) (lo hi : Option Int) : List α := (xs.drop (HT.sIx xs.length 0 lo)).take (HT.sIx xs.length xs.length hi - HT.sIx xs.length 0 lo)
theorem cutL_map {α : Type} (g : α → V) (xs : List α) (lo hi : Option Int) : cutV (xs.map g) lo hi = (cutL xs lo hi).map g := by
  unfold cutV cutL
  rw [List.length_map, List.map_take, List.map_drop]
theorem RowsAt.cut {K : PySem.W.Frag} {H : Hp} {as : List Addr} {rs : List (List Int × Int)} (h : RowsAt K H as rs) (lo hi : Option Int) : RowsAt K H (cutL as lo hi) (cutL rs lo hi) := by
  have e : as.length = rs.length := Paired.length h
  unfold cutL
  rw [e]
  exact paired_take _ (paired_drop _ h)
theorem RowsOk.sub {m : Nat} {rs rs' : List (List Int × Int)} (h : RowsOk m rs) (hl : rs'.length ≤ 200) (hs : ∀ r ∈ rs', r ∈ rs) : RowsOk m rs' :=
  ⟨h.pos, h.few, hl, fun r hr => h.cnt r (hs r hr), fun r hr => h.low r (hs r hr), fun r hr => h.sid r (hs r hr)⟩
theorem RowsOk.nil {m : Nat} (h0 : 0 < m) (h1 : m ≤ 4) : RowsOk m [] := ⟨h0, h1, by decide, fun _ h => absurd h (by simp), fun _ h => absurd h (by simp), fun _ h => absurd h (by simp)⟩
end Mw
set_option Elab.async false
set_option linter.all false
set_option maxRecDepth 100000
set_option maxHeartbeats 4000000
namespace Mw
open PySem L2
def spMixed2 (K : PySem.W.Frag) : Sp := fun vs H Q _ => ∃ (a : Addr) (ns : List Int) (k : Int), vs = [.ref a, .int k] ∧ SqL K H a (ns.map V.int) ∧ 0 ≤ k ∧ k ≤ 1000000 ∧ ∀ z : Int, 0 ≤ z → Q (.int z) H
def Below (d t : Int) : Prop := 0 ≤ d ∧ d < t
structure TopsOk (ts : List Int) : Prop where
  len : ts.length ≤ 100000
  pos : ∀ t ∈ ts, 0 < t
  low : ∀ t ∈ ts, t < 18446744073709551616
def spDrawn (K : PySem.W.Frag) : Sp := fun vs H Q _ => ∃ (a b : Addr) (ns ts : List Int), vs = [.ref a, .ref b] ∧ SqL K H a (ns.map V.int) ∧ SqL K H b (ts.map V.int) ∧ TopsOk ts ∧
  ∀ r H' (ds : List Int), Same H H' → H r = none → H' r = some (.lst (ds.map V.int)) → Paired Below ds ts → Q (.ref r) H'
def PtsAt (K : PySem.W.Frag) (H : Hp) (as : List Addr) (ps : List (List Int)) : Prop := Paired (fun a p => SqT K H a (p.map V.int)) as ps
theorem PtsAt.same {K : PySem.W.Frag} {H H' : Hp} {as : List Addr} {ps : List (List Int)} (e : Same H H') (h : PtsAt K H as ps) : PtsAt K H' as ps := Paired.mapP h fun _ _ q => e.seqT q
def spPoints (K : PySem.W.Frag) : Sp := fun vs H Q _ => ∃ (a : Addr) (ds : List Int) (m g n : Int), vs = [.ref a, .int m, .int g, .int n] ∧ SqL K H a (ds.map V.int) ∧ 0 < m ∧ m ≤ 12 ∧ 0 ≤ n ∧ n ≤ 1000 ∧ n * m ≤ ds.length ∧ (∀ (j : Nat) d, (j : Int) < n * m → ds[j]? = some d → 0 ≤ d ∧ d ≤ 2 * g) ∧
  ∀ r H' (as : List Addr) (ps : List (List Int)), Same H H' → H r = none → H' r = some (.lst (as.map V.ref)) → PtsAt K H' as ps → ps.length = n.toNat → (∀ p ∈ ps, p.length = m.toNat) → (∀ p ∈ ps, ∀ x ∈ p, -g ≤ x ∧ x ≤ g) → Q (.ref r) H'
def spLProd (K : PySem.W.Frag) : Sp := fun vs H Q _ => ∃ (a b : Addr) (b1 b2 : Bool) (ws xs : List Int), vs = [.ref a, .ref b] ∧ SqB K b1 H a (ws.map V.int) ∧ SqB K b2 H b (xs.map V.int) ∧ xs.length ≤ 900 ∧ ws.length ≤ 1000 ∧ (∀ x ∈ ws, Bits 1000 x) ∧ (∀ y ∈ xs, Bits 1000 y) ∧
  ∀ H', Same H H' → Q (.int (dot ws (xs ++ [1]))) H'
def guessV (z : Int) : V := if z = 0 then .non else .int (if 0 < z then 1 else 0)
theorem at_mem {ds : List Int} {z : Int} (h0 : 0 ≤ z) (h1 : z < (ds.length : Int)) : ∃ d, d ∈ ds ∧ atI (ds.map V.int) z = some (.int d) := at_list (k := z.toNat) (by omega) (by omega)
theorem cutI_from (ns : List Int) {lo : Int} (h0 : 0 ≤ lo) (h1 : lo ≤ (ns.length : Int)) : cutI ns (some lo) none = ns.drop lo.toNat := by
  unfold cutI
  have e1 : HT.sIx ns.length 0 (some lo) = lo.toNat := by
    show (if lo < 0 then (lo + (ns.length : Int)).toNat else min lo.toNat ns.length) = lo.toNat
    rw [if_neg (by omega)]; omega
  rw [e1]
  show (ns.drop lo.toNat).take (ns.length - lo.toNat) = _
  rw [List.take_of_length_le (by rw [List.length_drop]; exact Nat.le_refl _)]
theorem below_rep {ds : List Int} {n : Nat} {t : Int} (h : Paired Below ds (List.replicate n t)) : ds.length = n ∧ ∀ d ∈ ds, 0 ≤ d ∧ d < t := by
  refine ⟨by rw [Paired.length h, List.length_replicate], fun d hd => ?_⟩
  obtain ⟨i, hi⟩ := List.getElem?_of_mem hd
  obtain ⟨u, hu, r⟩ := paired_get h hi
  have := List.mem_of_getElem? hu
  rw [(List.mem_replicate.mp this).2] at r
  exact r
theorem paired_split {α β : Type} {R : α → β → Prop} {as : List α} {bs cs : List β} (h : Paired R as (bs ++ cs)) : Paired R (as.take bs.length) bs ∧ Paired R (as.drop bs.length) cs := by
  have h1 := paired_take bs.length h
  have h2 := paired_drop bs.length h
  rw [List.take_left] at h1
  rw [List.drop_left] at h2
  exact ⟨h1, h2⟩
end Mw
set_option Elab.async false
set_option linter.all false
set_option maxRecDepth 100000
set_option maxHeartbeats 4000000
namespace Mw
open PySem L2
def NotIns : HO → Prop
  | .ins _ _ _ => False
  | _ => True
structure Kp (S : List Addr) (H H' : Hp) : Prop where
  old : ∀ b o, H b = some o → NotIns o → H' b = some o
  but : ∀ b o, b ∉ S → H b = some o → H' b = some o
  has : ∀ b, H b ≠ none → H' b ≠ none
section
variable {K : PySem.W.Frag} {S S' : List Addr} {H H' H'' : Hp} {a : Addr} {xs : List V} {b : Bool}
theorem Kp.of (e : Same H H') : Kp S H H' := ⟨fun b o h _ => e b o h, fun b o _ h => e b o h, fun b h => by
  cases hb : H b with
  | none => exact absurd hb h
  | some o => rw [e b o hb]; simp⟩
theorem Kp.refl : Kp S H H := ⟨fun _ _ h _ => h, fun _ _ _ h => h, fun _ h => h⟩
theorem Kp.trans (h1 : Kp S H H') (h2 : Kp S H' H'') : Kp S H H'' := ⟨fun b o h n => h2.old b o (h1.old b o h n) n, fun b o n h => h2.but b o n (h1.but b o n h), fun b h => h2.has b (h1.has b h)⟩
theorem Kp.mono (h : Kp S H H') (m : ∀ x ∈ S, x ∈ S') : Kp S' H H' := ⟨h.old, fun b o n => h.but b o fun z => n (m b z), h.has⟩
theorem Kp.free (h : Kp S H H') (n : H' a = none) : H a = none := by
  cases e : H a with
  | none => rfl
  | some o => exact absurd n (h.has a (by rw [e]; simp))
theorem Kp.lst (h : Kp S H H') (e : H a = some (.lst xs)) : H' a = some (.lst xs) := h.old _ _ e True.intro
theorem Kp.tup (h : Kp S H H') (e : H a = some (.tup xs)) : H' a = some (.tup xs) := h.old _ _ e True.intro
theorem Kp.seq (h : Kp S H H') (e : SqL K H a xs) : SqL K H' a xs := by
  rcases e with (e | ⟨o, e⟩) | e
  · exact .inl (.inl (h.old _ _ e True.intro))
  · exact .inl (.inr ⟨o, h.old _ _ e True.intro⟩)
  · exact .inr e
theorem Kp.seqT (h : Kp S H H') (e : SqT K H a xs) : SqT K H' a xs := by
  rcases e with (e | ⟨o, e⟩) | e
  · exact .inl (.inl (h.old _ _ e True.intro))
  · exact .inl (.inr ⟨o, h.old _ _ e True.intro⟩)
  · exact .inr e
theorem Kp.seqB (h : Kp S H H') (e : SqB K b H a xs) : SqB K b H' a xs := by
  cases b
  · exact h.seq e
  · exact h.seqT e
theorem Kp.pts {as : List Addr} {ps : List (List Int)} (h : Kp S H H') (e : PtsAt K H as ps) : PtsAt K H' as ps := Paired.mapP e fun _ _ q => h.seqT q
theorem Kp.rows {as : List Addr} {rs : List (List Int × Int)} (h : Kp S H H') (e : RowsAt K H as rs) : RowsAt K H' as rs := Paired.mapP e fun _ _ ⟨p, q1, q2⟩ => ⟨p, h.seqT q1, h.seqT q2⟩
theorem Kp.new {o : HO} (h : Kp S H H') (n : H' a = none) : Kp S H (upd H' a o) := h.trans (Kp.of (Same.new n o))
theorem Kp.upd_old {o : HO} (h : Kp S H H') (n : H a = none) : Kp S H (upd H' a o) := by
  refine ⟨fun b u hb m => ?_, fun b u m hb => ?_, fun b hb => ?_⟩
  · rw [upd_ne (ne_of_none hb n)]; exact h.old b u hb m
  · rw [upd_ne (ne_of_none hb n)]; exact h.but b u m hb
  · by_cases z : b = a
    · rw [z, upd_same]; simp
    · rw [upd_ne z]; exact h.has b hb
end
structure Hnd where
  /-- 0: mends nothing; 1: plain; 2: with a margin -/
  kd : Nat
  mg : Int
  many : Nat
  ws : List Int
  err : Nat
namespace Hnd
def prod (h : Hnd) (p : List Int) : Int := dot h.ws (p ++ [1])
def wrong (h : Hnd) (p : List Int) (s : Int) : Bool := if h.kd = 2 then decide ((2 * s - 1) * h.prod p ≤ h.mg) else decide (guessV (h.prod p) ≠ V.int s)
def mend (ws p : List Int) (s : Int) : List Int := List.zipWith (fun w x => w + (2 * s - 1) * x) ws (p ++ [1])
def step (h : Hnd) (p : List Int) (s : Int) : Hnd := if h.wrong p s = true then { h with ws := if h.kd = 0 then h.ws else mend h.ws p s, err := h.err + 1 } else h
def new (kd : Nat) (mg : Int) (many : Nat) : Hnd := ⟨kd, mg, many, List.replicate (many + 1) 0, 0⟩
structure Ok (h : Hnd) : Prop where
  k3 : h.kd < 3
  pos : 0 < h.many
  few : h.many ≤ 4
  len : h.ws.length = h.many + 1
  low : ∀ w ∈ h.ws, w.natAbs ≤ 1000 * h.err
structure PtOk (h : Hnd) (p : List Int) : Prop where
  len : p.length = h.many
  low : ∀ x ∈ p, -1000 ≤ x ∧ x ≤ 1000
theorem low_snoc {p : List Int} (h : ∀ x ∈ p, -1000 ≤ x ∧ x ≤ 1000) : ∀ x ∈ p ++ [1], -1000 ≤ x ∧ x ≤ 1000 := fun x hx => by
  rcases List.mem_append.mp hx with z | z
  · exact h x z
  · rw [List.mem_singleton.mp z]; decide
theorem mend_mem {s : Int} (hs : s = 0 ∨ s = 1) {n : Nat} : ∀ {ws xs : List Int}, (∀ w ∈ ws, w.natAbs ≤ n) → (∀ x ∈ xs, -1000 ≤ x ∧ x ≤ 1000) → ∀ z ∈ List.zipWith (fun w x => w + (2 * s - 1) * x) ws xs, z.natAbs ≤ n + 1000
  | [], _, _, _, z, hz => by simp at hz
  | _ :: _, [], _, _, z, hz => by simp at hz
  | w :: ws, x :: xs, h1, h2, z, hz => by
    rw [List.zipWith_cons_cons] at hz
    rcases List.mem_cons.mp hz with e | e
    · have a1 := h1 w (List.mem_cons_self ..)
      have a2 := h2 x (List.mem_cons_self ..)
      rcases hs with rfl | rfl
      · have : (2 * 0 - 1 : Int) * x = -x := by omega
        rw [e, this]; omega
      · have : (2 * 1 - 1 : Int) * x = x := by omega
        rw [e, this]; omega
    · exact mend_mem hs (fun w hw => h1 w (List.mem_cons_of_mem _ hw)) (fun x hx => h2 x (List.mem_cons_of_mem _ hx)) z e
theorem mend_len {ws p : List Int} {s : Int} (h : ws.length = p.length + 1) : (mend ws p s).length = p.length + 1 := by
  unfold mend
  rw [List.length_zipWith, List.length_append, h]
  exact Nat.min_self _
theorem Ok.step {h : Hnd} {p : List Int} {s : Int} (o : Ok h) (q : PtOk h p) (hs : s = 0 ∨ s = 1) : Ok (h.step p s) := by
  unfold Hnd.step
  split
  · refine ⟨o.k3, o.pos, o.few, ?_, fun w hw => ?_⟩
    · show (if h.kd = 0 then h.ws else mend h.ws p s).length = _
      split
      · exact o.len
      · rw [mend_len (by rw [o.len, q.len]), q.len]
    · show w.natAbs ≤ 1000 * (h.err + 1)
      have hw' : w ∈ (if h.kd = 0 then h.ws else mend h.ws p s) := hw
      split at hw'
      · have := o.low w hw'; omega
      · have := mend_mem hs o.low (low_snoc q.low) w hw'; omega
  · exact o
end Hnd
structure HandI where
  At : Hp → Addr → Hnd → Prop
  Kd : Addr → Prop
  ins : ∀ {H a h}, At H a h → ∃ C dx fs, H a = some (.ins C dx fs) ∧ Kd C ∧ fs.lookup ("tells" : Str) = none ∧ fs.lookup ("put" : Str) = none ∧ fs.lookup ("weights" : Str) = none ∧ fs.lookup ("mistakes" : Str) = none
  keep : ∀ {S H H' a h}, At H a h → Kp S H H' → a ∉ S → At H' a h
section
variable (K : PySem.W.Frag) (I : HandI) (np ns : Addr)
abbrev errTop : Nat := 1000000
end
end Mw
namespace Mw
open PySem L2
theorem iteND {c A B : Prop} [Decidable c] (h1 : ¬ c → A) (h2 : c → B) : if (!decide c) = true then A else B := by
  by_cases h : c
  · rw [decide_eq_true h]; exact h2 h
  · rw [decide_eq_false h]; exact h1 h
end Mw
namespace Mw
open PySem L2
end Mw
namespace Mw
open PySem L2
theorem Hnd.bits {h : Hnd} (o : h.Ok) (e : h.err ≤ errTop) : ∀ w ∈ h.ws, Bits 1000 w := fun w hw => by
  have := o.low w hw
  refine Bits.mono (n := 40) ?_ (by decide)
  show w.natAbs < 2 ^ 40
  have e2 : (2 : Nat) ^ 40 = 1099511627776 := by decide
  have e3 : errTop = 1000000 := rfl
  omega
theorem dot_abs {A B : Nat} : ∀ {ws xs : List Int}, (∀ w ∈ ws, w.natAbs ≤ A) → (∀ x ∈ xs, x.natAbs ≤ B) → (dot ws xs).natAbs ≤ ws.length * (A * B)
  | [], _, _, _ => by simp [dot]
  | _ :: _, [], _, _ => by simp [dot]
  | w :: ws, x :: xs, h1, h2 => by
    have ih := dot_abs (ws := ws) (xs := xs) (fun w hw => h1 w (List.mem_cons_of_mem _ hw)) (fun x hx => h2 x (List.mem_cons_of_mem _ hx))
    have a1 := h1 w (List.mem_cons_self ..)
    have a2 := h2 x (List.mem_cons_self ..)
    have e : dot (w :: ws) (x :: xs) = w * x + dot ws xs := by unfold dot; rw [List.zipWith_cons_cons, List.sum_cons]
    have m : (w * x).natAbs ≤ A * B := by rw [Int.natAbs_mul]; exact Nat.mul_le_mul a1 a2
    rw [e, List.length_cons, Nat.add_mul, Nat.one_mul]
    have t := Int.natAbs_add_le (w * x) (dot ws xs)
    omega
end Mw
namespace Mw
open PySem L2
end Mw
set_option Elab.async false
set_option linter.all false
set_option maxRecDepth 100000
set_option maxHeartbeats 4000000
namespace L2
open PySem PySem.Spec PyProof.Rows
def OffD (D : Addr) (H H' : Hp) : Prop := ∀ b o, b ≠ D → H b = some o → H' b = some o
theorem OffD.of {D : Addr} {H H' : Hp} (s : Same H H') : OffD D H H' := fun b o _ h => s b o h
theorem OffD.upd {D : Addr} {H : Hp} {o : HO} : OffD D H (upd H D o) := fun b u n h => by rw [upd_ne n]; exact h
section
variable {K : PySem.W.Frag} {fr : List (Option Nat)} {g : TG} {te : TE} {D : Addr} {σ : St} {H1 : Hp} {Q : VK}
theorem snoc_get {ys : List V} {z : V} {P : Nat → V → Prop} (h : ∀ (j : Nat) y, ys[j]? = some y → P j y) (hz : P ys.length z) : ∀ (j : Nat) y, (ys ++ [z])[j]? = some y → P j y := fun j y e => by
  by_cases hj : j < ys.length
  · rw [List.getElem?_append_left hj] at e; exact h j y e
  · have h2 : j = ys.length := by
      have := (List.getElem?_eq_some_iff.mp e).1
      rw [List.length_append] at this
      simp at this
      omega
    subst h2
    rw [List.getElem?_append_right (Nat.le_refl _), Nat.sub_self] at e
    have : z = y := by simpa using e
    rw [← this]; exact hz
theorem comp_list_rel {a : Addr} {xs : List V} (Rl : Hp → Nat → V → Prop) (mono : ∀ H H' i y, OffD D H H' → Rl H i y → Rl H' i y) (hq : SqL K H1 a xs) (hn : xs.length ≤ sizeLine) (hD : H1 D = none)
    (hs : ∀ (i : Nat) x H (R : VK), xs[i]? = some x → Same H1 H → H D ≠ none → (∀ y H', Same H H' → Rl H' i y → R y H') → g x (carry fr σ) H fun σ2 H2 => Wk (carry fr σ) σ2 ∧ te σ2 H2 R)
    (q : ∀ ys H', Same H1 H' → H' D = some (.lst ys) → ys.length = xs.length → (∀ (j : Nat) y, ys[j]? = some y → Rl H' j y) → Q (.ref D) H') : tTurns fr g tYes te D (Itl K a) σ H1 Q := by
  refine comp_list (xs := xs) (fun i ys H => Same H1 H ∧ H D = some (.lst ys) ∧ ys.length = i ∧ ∀ (j : Nat) y, ys[j]? = some y → Rl H j y) ⟨Same.new hD _, upd_same, rfl, fun j y e => by simp at e⟩
    (fun i ys H hi ⟨_, e, p, _⟩ => ⟨e, by omega⟩) (fun i ys H hi ⟨e, _, _⟩ => e.seq hq) hn ?_ (fun ys H ⟨e1, e2, e3, e4⟩ => q ys H e1 e2 e3 e4)
  rintro i x ys H hx ⟨e1, e2, e3, e4⟩
  refine hs i x H _ hx e1 (by rw [e2]; simp) (fun y H' s r => ⟨s _ _ e2, (e1.trans s).upd_old hD, upd_same, by rw [List.length_append, e3]; rfl, ?_⟩)
  exact snoc_get (fun j u e => mono _ _ _ _ OffD.upd (mono _ _ _ _ (OffD.of s) (e4 j u e))) (by rw [e3]; exact mono _ _ _ _ OffD.upd r)
theorem comp_tup_rel {a : Addr} {xs : List V} (Rl : Hp → Nat → V → Prop) (mono : ∀ H H' i y, OffD D H H' → Rl H i y → Rl H' i y) (hq : SqT K H1 a xs) (hn : xs.length ≤ sizeLine) (hD : H1 D = none)
    (hs : ∀ (i : Nat) x H (R : VK), xs[i]? = some x → Same H1 H → H D ≠ none → (∀ y H', Same H H' → Rl H' i y → R y H') → g x (carry fr σ) H fun σ2 H2 => Wk (carry fr σ) σ2 ∧ te σ2 H2 R)
    (q : ∀ ys H', Same H1 H' → H' D = some (.lst ys) → ys.length = xs.length → (∀ (j : Nat) y, ys[j]? = some y → Rl H' j y) → Q (.ref D) H') : tTurns fr g tYes te D (Itt K a) σ H1 Q := by
  refine comp_tup (xs := xs) (fun i ys H => Same H1 H ∧ H D = some (.lst ys) ∧ ys.length = i ∧ ∀ (j : Nat) y, ys[j]? = some y → Rl H j y) ⟨Same.new hD _, upd_same, rfl, fun j y e => by simp at e⟩
    (fun i ys H hi ⟨_, e, p, _⟩ => ⟨e, by omega⟩) (fun i ys H hi ⟨e, _, _⟩ => e.seqT hq) hn ?_ (fun ys H ⟨e1, e2, e3, e4⟩ => q ys H e1 e2 e3 e4)
  rintro i x ys H hx ⟨e1, e2, e3, e4⟩
  refine hs i x H _ hx e1 (by rw [e2]; simp) (fun y H' s r => ⟨s _ _ e2, (e1.trans s).upd_old hD, upd_same, by rw [List.length_append, e3]; rfl, ?_⟩)
  exact snoc_get (fun j u e => mono _ _ _ _ OffD.upd (mono _ _ _ _ (OffD.of s) (e4 j u e))) (by rw [e3]; exact mono _ _ _ _ OffD.upd r)
theorem comp_range_rel {lo : Int} {n : Nat} (Rl : Hp → Nat → V → Prop) (mono : ∀ H H' i y, OffD D H H' → Rl H i y → Rl H' i y) (hn : n ≤ sizeLine) (hD : H1 D = none)
    (hs : ∀ (i : Nat) H (R : VK), i < n → Same H1 H → H D ≠ none → (∀ y H', Same H H' → Rl H' i y → R y H') → g (.int (lo + i)) (carry fr σ) H fun σ2 H2 => Wk (carry fr σ) σ2 ∧ te σ2 H2 R)
    (q : ∀ ys H', Same H1 H' → H' D = some (.lst ys) → ys.length = n → (∀ (j : Nat) y, ys[j]? = some y → Rl H' j y) → Q (.ref D) H') : tTurns fr g tYes te D (Itr lo n) σ H1 Q := by
  refine comp_range (n := n) (fun i ys H => Same H1 H ∧ H D = some (.lst ys) ∧ ys.length = i ∧ ∀ (j : Nat) y, ys[j]? = some y → Rl H j y) ⟨Same.new hD _, upd_same, rfl, fun j y e => by simp at e⟩
    (fun i ys H hi ⟨_, e, p, _⟩ => ⟨e, by omega⟩) hn ?_ (fun ys H ⟨e1, e2, e3, e4⟩ => q ys H e1 e2 e3 e4)
  rintro i ys H hi ⟨e1, e2, e3, e4⟩
  refine hs i H _ hi e1 (by rw [e2]; simp) (fun y H' s r => ⟨s _ _ e2, (e1.trans s).upd_old hD, upd_same, by rw [List.length_append, e3]; rfl, ?_⟩)
  exact snoc_get (fun j u e => mono _ _ _ _ OffD.upd (mono _ _ _ _ (OffD.of s) (e4 j u e))) (by rw [e3]; exact mono _ _ _ _ OffD.upd r)
end
theorem ys_map {α : Type} {g : α → V} {rs : List α} {ys : List V} (hl : ys.length = rs.length) (h : ∀ (j : Nat) y r, ys[j]? = some y → rs[j]? = some r → y = g r) : ys = rs.map g := by
  refine List.ext_getElem? fun j => ?_
  rw [List.getElem?_map]
  by_cases hj : j < ys.length
  · rw [List.getElem?_eq_getElem hj, List.getElem?_eq_getElem (by omega)]
    exact congrArg some (h j _ _ (List.getElem?_eq_getElem hj) (List.getElem?_eq_getElem (by omega)))
  · rw [List.getElem?_eq_none (by omega), List.getElem?_eq_none (by omega)]; rfl
theorem wk1 {σ : St} {v : V} {n : Nat} {w : V} (h : σ[n]? = some (some w)) : Wk (carry [none, some n] σ) [some v, some w] := by
  refine ⟨rfl, fun k u e => ?_⟩
  have e0 : carry [none, some n] σ = [none, some w] := by simp [carry, h]
  rw [e0] at e
  match k, e with
  | 0, e => simp at e
  | 1, e => exact e
  | k + 2, e => simp at e
section
variable {X : Cx}
theorem call_maxL (hc : X.calm = true) : CallR X (.builtin "max") (fun xs H Q => ∃ (a : Addr) (ns : List Int), xs = [.ref a] ∧ SqL X.K H a (ns.map V.int) ∧ 0 < ns.length ∧ ∀ m, m ∈ ns → (∀ b ∈ ns, b ≤ m) → Q (.int m) H) := by
  intro pins s σ H xs us Q I r h
  obtain ⟨a, ns, rfl, hs, hn, q⟩ := h
  obtain ⟨u, rfl, r1⟩ := vals1 r
  obtain rfl : u = Value.ref a := r1
  obtain ⟨its, rv, p, hz⟩ := I.list hs
  obtain ⟨zs, e⟩ := (intsAre_of rv).allInts.items
  have hns : ns = zs.toList.map (·.1) := by rw [← (intsAre_of rv).numsOf, ← nums_intItems, ← e]
  have hsz : 0 < zs.size := by have h3 := hn; rw [hns, List.length_map, Array.length_toList] at h3; exact h3
  have hl := p.isList
  rw [e] at hl
  refine max_intList (I.ok.hd hc) hl hsz fun v h' tk hv hk => ?_
  obtain ⟨t, rfl⟩ := intItems_at hv
  obtain ⟨h1, h2⟩ := argBest_gt (numAt zs) (zs.size - 1)
  have e3 : ∀ k, k < zs.size → numAt zs k ∈ ns := fun k hk => by
    rw [hns]
    refine List.mem_map.mpr ⟨zs[k], by simp, ?_⟩
    simp [numAt, hk]
  have e4 : ∀ b ∈ ns, ∃ k, k < zs.size ∧ numAt zs k = b := fun b hb => by
    rw [hns] at hb
    obtain ⟨y, hy, rfl⟩ := List.mem_map.mp hb
    obtain ⟨k, hk, hk2⟩ := List.getElem_of_mem hy
    have hk' : k < zs.size := by simpa using hk
    refine ⟨k, hk', ?_⟩
    simp [numAt, hk', ← hk2]
  refine ⟨.int (numAt zs (argBest (fun i j => decide (numAt zs i > numAt zs j)) (zs.size - 1))), H, I.kept hk, ⟨_, rfl⟩, q _ (e3 _ (by omega)) fun b hb => ?_⟩
  obtain ⟨k, hk1, rfl⟩ := e4 b hb
  exact h2 k (by omega)
end
section
variable {X : Cx} {scope : Scope} {NB : List Str} {fr : List (Option Nat)} {elt tg iter : Expr} {ifs : List Expr} {pos : Pos} {wi : TI} {g : TG} {tc : TT} {te : TE}
theorem pe_compN (hcalm : X.calm = true) (B : BlkOk X.env.scope X.N scope NB fr) (hi : PI X tg iter wi) (hg : ∀ C s H fp, PG (blk X scope NB C s H fp) tg g) (hif : ∀ C s H fp, PIfs (blk X scope NB C s H fp) ifs tc) (he : ∀ C s H fp, PE (blk X scope NB C s H fp) elt te)
    (hs : ∀ x, foldedSetIterable iter X.env x = pure x := by intro _; rfl) : PE X (.ListComp elt [⟨tg, iter, ifs, 0⟩] scope pos) (tComp fr wi g tc te) := pe_comp (sc := X.env.scope) (N := X.N) hcalm B hi hg hif he hs rfl rfl
end
section
variable {X : Cx} {K : PySem.W.Frag} {tg l : Expr} {tl ta : TE} {e : Expr} {f : Str} {pos : Pos}
theorem pi_tupK (hK : X.K = K) (hl : PE X l tl) : PI X tg l (iTup K tl) := by subst hK; exact pi_tup hl
theorem call_sumK (hK : X.K = K) (hc : X.calm = true) : CallR X (.builtin "sum") (fun xs H Q => ∃ (a : Addr) (ns : List Int), xs = [.ref a] ∧ SqL K H a (ns.map V.int) ∧ Q (.int ns.sum) H) := by subst hK; exact call_sumI hc
theorem call_maxK (hK : X.K = K) (hc : X.calm = true) : CallR X (.builtin "max") (fun xs H Q => ∃ (a : Addr) (ns : List Int), xs = [.ref a] ∧ SqL K H a (ns.map V.int) ∧ 0 < ns.length ∧ ∀ m, m ∈ ns → (∀ b ∈ ns, b ≤ m) → Q (.int m) H) := by subst hK; exact call_maxL hc
end
end L2
namespace Mw
open PySem L2
theorem dot_bits {ws xs : List Int} (hl : ws.length ≤ 1000) (h1 : ∀ w ∈ ws, Bits 900 w) (h2 : ∀ x ∈ xs, -1000 ≤ x ∧ x ≤ 1000) : Bits 1000 (dot ws xs) := by
  have a := dot_abs (A := 2 ^ 900) (B := 1000) (ws := ws) (xs := xs) (fun w hw => Nat.le_of_lt (h1 w hw)) (fun x hx => by have := h2 x hx; omega)
  refine Bits.mono (n := 920) ?_ (by decide)
  show (dot ws xs).natAbs < 2 ^ 920
  have e : (2 : Nat) ^ 920 = 2 ^ 900 * 2 ^ 20 := by rw [← Nat.pow_add]
  have p : 0 < (2 : Nat) ^ 900 := Nat.pow_pos (by decide)
  rw [e]
  refine Nat.lt_of_le_of_lt a ?_
  refine Nat.lt_of_le_of_lt (Nat.mul_le_mul_right _ hl) ?_
  have e2 : (2 : Nat) ^ 20 = 1048576 := by decide
  rw [e2]
  generalize (2 : Nat) ^ 900 = z at *
  omega
end Mw
namespace Mw
open PySem L2
theorem cutI_to (ns : List Int) {hi : Int} (h0 : 0 ≤ hi) (h1 : hi ≤ (ns.length : Int)) : cutI ns none (some hi) = ns.take hi.toNat := by
  unfold cutI
  have e1 : HT.sIx ns.length ns.length (some hi) = hi.toNat := by
    show (if hi < 0 then (hi + (ns.length : Int)).toNat else min hi.toNat ns.length) = hi.toNat
    rw [if_neg (by omega)]; omega
  rw [e1]
  show (ns.drop 0).take (hi.toNat - 0) = _
  rw [List.drop_zero, Nat.sub_zero]
theorem rows_of {K : PySem.W.Frag} {H : Hp} : ∀ {ys : List V} {rs : List (List Int × Int)}, ys.length = rs.length → (∀ (j : Nat) y r, ys[j]? = some y → rs[j]? = some r → ∃ t p, y = .ref t ∧ SqT K H t [.ref p, .int r.2] ∧ SqT K H p (r.1.map V.int)) → ∃ as : List Addr, ys = as.map V.ref ∧ RowsAt K H as rs
  | [], [], _, _ => ⟨[], rfl, .nil⟩
  | y :: ys, r :: rs, hl, h => by
    obtain ⟨t, p, e, h1, h2⟩ := h 0 y r rfl rfl
    obtain ⟨as, e2, h3⟩ := rows_of (ys := ys) (rs := rs) (by simpa using hl) fun j y r a b => h (j + 1) y r (by simpa using a) (by simpa using b)
    exact ⟨t :: as, by rw [e, e2]; rfl, .cons ⟨p, h1, h2⟩ h3⟩
end Mw
set_option Elab.async false
set_option linter.all false
set_option maxRecDepth 100000
set_option maxHeartbeats 4000000
namespace L2
open PySem PySem.Spec PyProof.Rows
section
variable {X : Cx} {C : Addr} {G : St → XK} {x : Str} {np cpos pos : Pos}
end
section
variable {K : PySem.W.Frag} {fr : List (Option Nat)} {g : TG} {tc : TT} {te : TE} {D : Addr} {σ : St} {H1 : Hp} {Q : VK}
theorem comp_enum {a : Addr} {xs : List V} (Pv : Nat → List V → Hp → Prop) (h0 : Pv 0 [] (upd H1 D (.lst [])))
    (hD : ∀ i ys H, i ≤ xs.length → Pv i ys H → H D = some (.lst ys) ∧ ys.length ≤ i) (hl : ∀ i ys H, i ≤ xs.length → Pv i ys H → SqL K H a xs) (hn : xs.length ≤ sizeLine)
    (hs : ∀ (i : Nat) x T ys H, xs[i]? = some x → H T = none → Pv i ys H → g (.ref T) (carry fr σ) (upd H T (.tup [.int (i : Nat), x])) fun σ2 H2 => Wk (carry fr σ) σ2 ∧ tc σ2 H2 fun b H3 => if b = true then te σ2 H3 fun y H4 => H4 D = some (.lst ys) ∧ Pv (i + 1) (ys ++ [y]) (upd H4 D (.lst (ys ++ [y]))) else Pv (i + 1) ys H3)
    (hd : ∀ ys H, Pv xs.length ys H → Q (.ref D) H) : tTurns fr g tc te D (Ite K a) σ H1 Q := by
  refine comp_seq (n := xs.length) Pv h0 hD (fun i ys H hi p => ?_) (fun ys H p => ?_) hn (fun i ys H x H' hi p y => ?_) hd
  · have q := hl i ys H (Nat.le_of_lt hi) p
    exact ⟨xs, xs[i], q, by simp [hi]⟩
  · exact ⟨xs, hl _ ys H (Nat.le_refl _) p, Nat.le_refl _⟩
  · obtain ⟨T, v, e1, e2, e3, y⟩ := y
    subst e1 e3
    exact hs i v T ys _ (y xs (hl i ys _ (Nat.le_of_lt hi) p)) e2 p
def picked (p : Nat → Bool) (f : Nat → V) (i : Nat) : List V := ((List.range i).filter p).map f
theorem picked_succ (p : Nat → Bool) (f : Nat → V) (i : Nat) : picked p f (i + 1) = if p i = true then picked p f i ++ [f i] else picked p f i := by
  unfold picked
  rw [List.range_succ, List.filter_append, List.map_append]
  by_cases h : p i = true
  · rw [if_pos h]; simp [h]
  · rw [if_neg h]; simp [h]
theorem picked_len (p : Nat → Bool) (f : Nat → V) (i : Nat) : (picked p f i).length ≤ i := by
  unfold picked
  rw [List.length_map]
  exact Nat.le_trans (List.length_filter_le _ _) (by rw [List.length_range]; exact Nat.le_refl _)
theorem comp_enum_filter {a : Addr} {xs : List V} (p : Nat → Bool) (f : Nat → V) (hq : SqL K H1 a xs) (hn : xs.length ≤ sizeLine) (hD : H1 D = none)
    (hs : ∀ (i : Nat) x T H (R : VK) (R' : Hp → Prop), xs[i]? = some x → Same H1 H → H T = none → (p i = true → ∀ H', Same (upd H T (.tup [.int (i : Nat), x])) H' → R (f i) H') → (p i = false → ∀ H', Same (upd H T (.tup [.int (i : Nat), x])) H' → R' H') →
      g (.ref T) (carry fr σ) (upd H T (.tup [.int (i : Nat), x])) fun σ2 H2 => Wk (carry fr σ) σ2 ∧ tc σ2 H2 fun b H3 => if b = true then te σ2 H3 R else R' H3)
    (q : ∀ H', Same H1 H' → H' D = some (.lst (picked p f xs.length)) → Q (.ref D) H') : tTurns fr g tc te D (Ite K a) σ H1 Q := by
  refine comp_enum (xs := xs) (fun i ys H => Same H1 H ∧ H D = some (.lst ys) ∧ ys = picked p f i) ⟨Same.new hD _, upd_same, rfl⟩
    (fun i ys H hi ⟨_, e, z⟩ => ⟨e, by rw [z]; exact picked_len p f i⟩) (fun i ys H hi ⟨e, _, _⟩ => e.seq hq) hn ?_ (fun ys H ⟨e1, e2, e3⟩ => q H e1 (by rw [← e3]; exact e2))
  rintro i x T ys H hi hT ⟨e1, e2, e3⟩
  have s0 := Same.new hT (.tup [.int (i : Nat), x])
  refine hs i x T H _ _ hi e1 hT (fun hp H' s => ⟨(s0.trans s) _ _ e2, (e1.trans (s0.trans s)).upd_old hD, upd_same, ?_⟩) (fun hp H' s => ⟨e1.trans (s0.trans s), (s0.trans s) _ _ e2, ?_⟩)
  · rw [picked_succ, if_pos hp, e3]
  · rw [picked_succ, if_neg (by rw [hp]; simp), e3]
theorem picked_ints (p : Nat → Bool) (f : Nat → Int) (i : Nat) : picked p (fun j => V.int (f j)) i = (((List.range i).filter p).map f).map V.int := by
  unfold picked; rw [List.map_map]; rfl
end
end L2
namespace Mw
open PySem L2
structure HandG (S : Type) where
  At : Hp → Addr → S → Prop
  Kd : Addr → Prop
  ins : ∀ {H a h}, At H a h → ∃ C dx fs, H a = some (.ins C dx fs) ∧ Kd C ∧ fs.lookup ("tells" : Str) = none ∧ fs.lookup ("put" : Str) = none ∧ fs.lookup ("weights" : Str) = none ∧ fs.lookup ("mistakes" : Str) = none
  keep : ∀ {L H H' a h}, At H a h → Kp L H H' → a ∉ L → At H' a h
  /-- a list that isn't the hand's is written to -/
  keepL : ∀ {H H' a h D xs}, At H a h → H D = some (.lst xs) → OffD D H H' → At H' a h
end Mw
namespace L2
open PySem PySem.Spec PyProof.Rows
end L2
set_option Elab.async false
set_option linter.all false
set_option maxRecDepth 100000
set_option maxHeartbeats 4000000
namespace Mw
def mv (c : Int) (ws xs : List Int) : List Int := List.zipWith (fun w x => w + c * x) ws xs
theorem dot_cons (a b : Int) (as bs : List Int) : dot (a :: as) (b :: bs) = a * b + dot as bs := by unfold dot; rw [List.zipWith_cons_cons, List.sum_cons]
theorem mv_cons (c w x : Int) (ws xs : List Int) : mv c (w :: ws) (x :: xs) = (w + c * x) :: mv c ws xs := by unfold mv; rw [List.zipWith_cons_cons]
end Mw
set_option Elab.async false
set_option linter.all false
set_option maxRecDepth 100000
set_option maxHeartbeats 4000000
namespace Mw
open PySem L2
def topI : List Int → Int
  | [] => 0
  | [x] => x
  | x :: y :: r => if topI (y :: r) ≤ x then x else topI (y :: r)
theorem topI_mem : ∀ {ps : List Int}, ps ≠ [] → topI ps ∈ ps
  | [], h => absurd rfl h
  | [x], _ => by simp [topI]
  | x :: y :: r, _ => by
    have ih := topI_mem (ps := y :: r) (by simp)
    unfold topI
    split
    · simp
    · exact List.mem_cons_of_mem _ ih
theorem topI_le : ∀ {ps : List Int} {b : Int}, b ∈ ps → b ≤ topI ps
  | [], _, h => by simp at h
  | [x], b, h => by simp [topI] at *; omega
  | x :: y :: r, b, h => by
    unfold topI
    rcases List.mem_cons.mp h with e | e
    · subst e; split <;> omega
    · have ih := topI_le e
      split <;> omega
theorem topI_eq {ps : List Int} {m : Int} (h : m ∈ ps) (h2 : ∀ b ∈ ps, b ≤ m) : m = topI ps := by
  have a := topI_le h
  have b := h2 _ (topI_mem (fun z => by rw [z] at h; simp at h))
  omega
def bestS (ps : List Int) : List Nat := (List.range ps.length).filter fun j => decide (ps.getD j 0 = topI ps)
def guessS (ps : List Int) : V := if 1 < (bestS ps).length then .non else .int (((bestS ps).headD 0 : Nat) : Int)
theorem bestS_ne {ps : List Int} (h : ps ≠ []) : bestS ps ≠ [] := fun z => by
  obtain ⟨j, hj⟩ := List.getElem?_of_mem (topI_mem h)
  have hl := (List.getElem?_eq_some_iff.mp hj).1
  have : j ∈ bestS ps := by
    unfold bestS
    refine List.mem_filter.mpr ⟨List.mem_range.mpr hl, ?_⟩
    simp [List.getD_eq_getElem?_getD, hj]
  rw [z] at this
  simp at this
def othersS (n : Nat) (s : Int) : List Nat := (List.range n).filter fun j => decide ((j : Int) ≠ s)
def rivalS (ps : List Int) (s : Int) : Nat := ((othersS ps.length s).filter fun j => decide (ps.getD j 0 = topI ((othersS ps.length s).map fun j => ps.getD j 0))).headD 0
theorem others_lt {n : Nat} {s : Int} {j : Nat} (h : j ∈ othersS n s) : j < n := List.mem_range.mp (List.mem_filter.mp h).1
def WsAt (K : PySem.W.Frag) (H : Hp) (as : List Addr) (wss : List (List Int)) : Prop := Paired (fun a ws => H a = some (.lst (ws.map V.int))) as wss
def TsAt (H : Hp) (as : List Addr) (wss : List (List Int)) : Prop := Paired (fun a ws => H a = some (.tup (ws.map V.int))) as wss
theorem TsAt.same {H H' : Hp} {as : List Addr} {wss : List (List Int)} (e : Same H H') (h : TsAt H as wss) : TsAt H' as wss := Paired.mapP h fun _ _ q => e _ _ q
structure Snd where
  many : Nat
  sides : Nat
  ws : List (List Int)
  err : Nat
namespace Snd
def prods (h : Snd) (p : List Int) : List Int := h.ws.map fun w => dot w (p ++ [1])
def wrong (h : Snd) (p : List Int) (s : Nat) : Bool := decide (guessS (h.prods p) ≠ V.int s)
def mend (wss : List (List Int)) (ps : List Int) (p : List Int) (s : Nat) : List (List Int) :=
  let a := wss.set s (mv 1 (wss.getD s []) (p ++ [1]))
  a.set (rivalS ps s) (mv (-1) (a.getD (rivalS ps s) []) (p ++ [1]))
def step (h : Snd) (p : List Int) (s : Nat) : Snd := if h.wrong p s = true then { h with ws := mend h.ws (h.prods p) p s, err := h.err + 1 } else h
def new (many sides : Nat) : Snd := ⟨many, sides, List.replicate sides (List.replicate (many + 1) 0), 0⟩
structure Ok (h : Snd) : Prop where
  pos : 0 < h.many
  few : h.many ≤ 4
  two : 2 ≤ h.sides
  five : h.sides ≤ 5
  len : h.ws.length = h.sides
  lens : ∀ w ∈ h.ws, w.length = h.many + 1
  low : ∀ w ∈ h.ws, ∀ x ∈ w, x.natAbs ≤ 2000 * h.err
structure PtOk (h : Snd) (p : List Int) : Prop where
  len : p.length = h.many
  low : ∀ x ∈ p, -1000 ≤ x ∧ x ≤ 1000
end Snd
section
variable (K : PySem.W.Frag) (I : HandG Snd) (np ns : Addr)
end
theorem rivalS_lt {ps : List Int} {s : Int} (h : othersS ps.length s ≠ []) : rivalS ps s < ps.length ∧ (rivalS ps s : Int) ≠ s := by
  have hfn : ((othersS ps.length s).filter fun j => decide (ps.getD j 0 = topI ((othersS ps.length s).map fun j => ps.getD j 0))) ≠ [] := fun z => by
    obtain ⟨j, hj1, hj2⟩ := List.mem_map.mp (topI_mem (ps := (othersS ps.length s).map fun j => ps.getD j 0) (by simpa using h))
    have : j ∈ ((othersS ps.length s).filter fun j => decide (ps.getD j 0 = topI ((othersS ps.length s).map fun j => ps.getD j 0))) := List.mem_filter.mpr ⟨hj1, by simpa using hj2⟩
    rw [z] at this
    simp at this
  have hm : rivalS ps s ∈ othersS ps.length s := by
    unfold rivalS
    cases e : ((othersS ps.length s).filter fun j => decide (ps.getD j 0 = topI ((othersS ps.length s).map fun j => ps.getD j 0))) with
    | nil => exact absurd e hfn
    | cons j r =>
      have : j ∈ ((othersS ps.length s).filter fun j => decide (ps.getD j 0 = topI ((othersS ps.length s).map fun j => ps.getD j 0))) := by rw [e]; simp
      exact (List.mem_filter.mp this).1
  exact ⟨others_lt hm, by have := (List.mem_filter.mp hm).2; simpa using this⟩
theorem others_ne {n : Nat} {s : Nat} (h : 2 ≤ n) : othersS n s ≠ [] := fun z => by
  by_cases h0 : s = 0
  · have : 1 ∈ othersS n s := List.mem_filter.mpr ⟨List.mem_range.mpr (by omega), by simp; omega⟩
    rw [z] at this; simp at this
  · have : 0 ∈ othersS n s := List.mem_filter.mpr ⟨List.mem_range.mpr (by omega), by simp; omega⟩
    rw [z] at this; simp at this
theorem WsAt.off {K : PySem.W.Frag} {H H' : Hp} {D : Addr} {bs : List Addr} {wss : List (List Int)} (h : WsAt K H bs wss) (n : D ∉ bs) (o : OffD D H H') : WsAt K H' bs wss := by
  unfold WsAt at *
  induction h with
  | nil => exact .nil
  | cons r t ih => exact .cons (o _ _ (fun z => n (by rw [z]; simp)) r) (ih fun z => n (List.mem_cons_of_mem _ z))
theorem WsAt.kp {K : PySem.W.Frag} {S : List Addr} {H H' : Hp} {bs : List Addr} {wss : List (List Int)} (h : WsAt K H bs wss) (k : Kp S H H') : WsAt K H' bs wss := Paired.mapP h fun _ _ q => k.lst q
theorem mv_len {c : Int} {ws xs : List Int} (h : ws.length = xs.length) : (mv c ws xs).length = ws.length := by
  unfold mv; rw [List.length_zipWith, h]; exact Nat.min_self _
theorem mv_mem {c : Int} (hc : c = 1 ∨ c = -1) {n : Nat} : ∀ {ws xs : List Int}, (∀ w ∈ ws, w.natAbs ≤ n) → (∀ x ∈ xs, -1000 ≤ x ∧ x ≤ 1000) → ∀ z ∈ mv c ws xs, z.natAbs ≤ n + 1000
  | [], _, _, _, z, hz => by simp [mv] at hz
  | _ :: _, [], _, _, z, hz => by simp [mv] at hz
  | w :: ws, x :: xs, h1, h2, z, hz => by
    rw [mv_cons] at hz
    rcases List.mem_cons.mp hz with e | e
    · have a1 := h1 w (List.mem_cons_self ..)
      have a2 := h2 x (List.mem_cons_self ..)
      rcases hc with rfl | rfl <;> rw [e] <;> omega
    · exact mv_mem hc (fun w hw => h1 w (List.mem_cons_of_mem _ hw)) (fun x hx => h2 x (List.mem_cons_of_mem _ hx)) z e
theorem Snd.prods_len (h : Snd) (p : List Int) : (h.prods p).length = h.ws.length := by unfold Snd.prods; rw [List.length_map]
theorem Snd.Ok.step {h : Snd} {p : List Int} {s : Nat} (o : h.Ok) (q : h.PtOk p) (hs : s < h.sides) : (h.step p s).Ok := by
  unfold Snd.step
  split
  · have hl := o.len
    have hlow := Hnd.low_snoc q.low
    have hpl : (p ++ [1]).length = h.many + 1 := by rw [List.length_append, q.len]; rfl
    have hset : ∀ (wss : List (List Int)) (i : Nat) (c : Int) (e : Nat), (c = 1 ∨ c = -1) → i < wss.length → (∀ w ∈ wss, w.length = h.many + 1) → (∀ w ∈ wss, ∀ x ∈ w, x.natAbs ≤ e) → (∀ w ∈ wss.set i (mv c (wss.getD i []) (p ++ [1])), w.length = h.many + 1) ∧ (∀ w ∈ wss.set i (mv c (wss.getD i []) (p ++ [1])), ∀ x ∈ w, x.natAbs ≤ e + 1000) := by
      intro wss i c e hc hi h1 h2
      have hg : wss.getD i [] = wss[i] := by rw [List.getD_eq_getElem?_getD, List.getElem?_eq_getElem hi]; rfl
      have hm : wss[i] ∈ wss := List.getElem_mem hi
      rw [hg]
      refine ⟨fun w hw => ?_, fun w hw x hx => ?_⟩
      · rcases List.mem_or_eq_of_mem_set hw with z | z
        · exact h1 w z
        · rw [z, mv_len (by rw [h1 _ hm, hpl]), h1 _ hm]
      · rcases List.mem_or_eq_of_mem_set hw with z | z
        · have := h2 w z x hx; omega
        · rw [z] at hx; exact mv_mem hc (h2 _ hm) hlow x hx
    have hsl : s < h.ws.length := by omega
    have hrv := rivalS_lt (ps := h.prods p) (s := (s : Int)) (by rw [Snd.prods_len, hl]; exact others_ne o.two)
    rw [Snd.prods_len] at hrv
    obtain ⟨a1, a2⟩ := hset h.ws s 1 (2000 * h.err) (.inl rfl) hsl o.lens o.low
    obtain ⟨b1, b2⟩ := hset (h.ws.set s (mv 1 (h.ws.getD s []) (p ++ [1]))) (rivalS (h.prods p) s) (-1) (2000 * h.err + 1000) (.inr rfl) (by rw [List.length_set]; exact hrv.1) a1 a2
    refine ⟨o.pos, o.few, o.two, o.five, ?_, b1, fun w hw x hx => ?_⟩
    · show (Snd.mend h.ws (h.prods p) p s).length = h.sides
      unfold Snd.mend
      rw [List.length_set, List.length_set, hl]
    · have := b2 w hw x hx
      show x.natAbs ≤ 2000 * (h.err + 1)
      omega
  · exact o
end Mw
set_option Elab.async false
set_option linter.all false
set_option maxRecDepth 100000
set_option maxHeartbeats 4000000
namespace L2
open PySem PySem.Spec PyProof.Rows
def tFstr (t : TE) : TE := fun σ H Q => t σ H fun v H1 => ∃ i : Int, v = .int i ∧ Bits 1900 i ∧ ∀ y, Q (.str y) H1
theorem pe_fstr {X : Cx} {e : Expr} {t : TE} {x : Str} {k : Nat} {p0 p1 p2 : Pos} (he : PE X e t) (hx : x.length ≤ 1000) :
    PE X (.JoinedStr [.Constant (.str x) k p0, .FormattedValue e (-1) none p1] p2) (tFstr t) := by
  intro pins s σ H Q I h
  refine JoinedStr_many (joinParts_cons (Calls.Constant_str ?_))
  have z0 : (Str.empty : Str).length = 0 := rfl
  have z1 : (Str.empty ++ x).length ≤ 1000 := by rw [strLen_append, z0]; omega
  refine ⟨Nat.le_trans z1 (by rw [sizeLine_eq]; decide), ?_⟩
  refine joinParts_cons (FormattedValue_plain (thn (he pins _ σ H _ (I.tok _) h) fun u s1 ⟨v, H1, I1, rv, i, e1, hb, q⟩ => ?_))
  subst e1
  obtain ⟨tk, rfl⟩ := rv
  have hd : i.natAbs.log2 < 1920 := by
    by_cases z : i.natAbs = 0
    · rw [z]; decide
    · exact (Nat.log2_lt z).mpr (Nat.lt_of_lt_of_le hb (Nat.pow_le_pow_right (by decide) (by decide)))
  refine formatField_int_small hd ?_
  have z2 := int_text_length_le (k := 1920) (by decide) hd
  have z3 : (Str.empty ++ x ++ (Str.ofString (toString i))).length ≤ sizeLine := by
    rw [strLen_append, PySem.ofString_length, sizeLine_eq]; omega
  exact ⟨z3, joinParts_nil ⟨.str _, H1, I1.tok _, ⟨_, rfl⟩, q _⟩ z3⟩
section
variable {X : Cx} {K : PySem.W.Frag}
end
end L2
set_option Elab.async false
set_option linter.all false
set_option maxRecDepth 100000
set_option maxHeartbeats 4000000
namespace L2
open PySem PySem.Spec PyProof.Rows PySem.AutoSeq1
theorem tuple_mul2 (l : Addr) (items : Array Value) (n : Nat) (dd : Option Addr) (sl : Array (Option Value)) (x : Int) (u : Tok) (h0 : ¬(items.isEmpty || x == 1) = true) (h1 : ¬(decide (x < -(2 ^ 63)) || decide (x ≥ 2 ^ 63)) = true) (h2 : ¬(decide (x ≤ 0) || items.isEmpty) = true)
    (h3 : ¬((items.size : Int) * x > (2 ^ 63 - 1) / 8)) (h4 : ¬Builtin.Tuple.tupleTooMany ((items.size : Int) * x) = true) (hsz : (List.foldl (fun x1 x2 => x1 ++ x2) #[] (List.replicate x.toNat items)).size ≤ sizeLine) :
    Meets (Builtin.«tuple.__mul__» ⟨[.ref l, .int x u], []⟩) (fun _ R s => s.heap.get? l = some { cls := .type "tuple", dict := dd, data := .seq items n, slots := sl } ∧ R (.ok (.ret (Value.ref s.heap.objs.size))) { s with heap := s.heap.push { cls := Value.type "tuple", data := Data.seq (List.foldl (fun x1 x2 => x1 ++ x2) #[] (List.replicate x.toNat items)) }, toks := s.toks }) :=
  .of_wp fun prog w A R s h => by
    obtain ⟨hp, g, d, tk, os⟩ := s; obtain ⟨hl, h⟩ := h
    have f1 := AutoSeq1.idx_int
    wp_walk using wpAny_loadPart' hl
    refine wpAny_ite_false (decide_eq_false h1) ?_
    wp_walk using wpAny_loadPart' hl
    refine wpAny_ite_false (decide_eq_false h3) ?_
    wp_walk using wpAny_loadPart' hl
    exact ⟨_, rfl, h⟩
theorem tuple_mul1 (l : Addr) (items : Array Value) (n : Nat) (dd : Option Addr) (sl : Array (Option Value)) (u : Tok) (hc : (items.isEmpty || (1 : Int) == 1) = true) (hc1 : ¬(decide ((1 : Int) < -(2 ^ 63)) || decide ((1 : Int) ≥ 2 ^ 63)) = true) :
    Meets (Builtin.«tuple.__mul__» ⟨[.ref l, .int 1 u], []⟩) (fun _ R s => s.heap.get? l = some { cls := .type "tuple", dict := dd, data := .seq items n, slots := sl } ∧ R (.ok (.ret (Value.ref l))) s) :=
  .of_wp fun prog w A R s h => by
    obtain ⟨hp, g, d, tk, os⟩ := s; obtain ⟨hl, h⟩ := h
    have f1 := AutoSeq1.idx_int
    wp_walk using wpAny_loadPart' hl
    exact ⟨_, rfl, h⟩
theorem noFill_tuple_mul : fillsNumberSlot (.type "tuple") "mul" = pure false :=
  PySem.fillsNumberSlot_seq (id := "tuple.__mul__") (r := some (.builtin "tuple.__rmul__")) F.slot_tuple_mul.lookup (by decide +kernel) F.slot_tuple_rmul.lookup (by decide +kernel)
theorem repeat_tuple : seqRepeat? (.type "tuple") = pure (some (.builtin "tuple.__mul__")) := by
  unfold seqRepeat?
  rw [PySem.seqSlot_of (T := "tuple") (name := "__mul__") (id := "tuple.__mul__") F.slot_tuple_mul.lookup (by decide +kernel), PySem.seqSlot_of (T := "tuple") (name := "__rmul__") (id := "tuple.__rmul__") F.slot_tuple_rmul.lookup (by decide +kernel)]
  rfl
theorem int_rmul_tuple (a : Int) (t : Tok) (l : Addr) (items : Array Value) (n : Nat) (dd : Option Addr) (sl : Array (Option Value)) :
    Meets (Builtin.«int.__rmul__» ⟨[.int a t, .ref l], []⟩) (fun _ R s => s.heap.get? l = some { cls := .type "tuple", dict := dd, data := .seq items n, slots := sl } ∧ R (.ok (.ret Value.notImplemented)) s) :=
  .of_wp fun prog w A R s h => by obtain ⟨hp, g, d, tk, os⟩ := s; obtain ⟨hl, h⟩ := h; wp_walk; exact ⟨_, rfl, h⟩
def rRepT (K : PySem.W.Frag) : R2 := fun x y H Q => ∃ a n xs, x = .ref a ∧ y = .int n ∧ SqT K H a xs ∧ xs ≠ [] ∧ 1 ≤ n ∧ n ≤ 1000 ∧ xs.length ≤ 1000 ∧ (n = 1 → Q (.ref a) H) ∧ (n ≠ 1 → ∀ p, H p = none → Q (.ref p) (upd H p (.tup (List.replicate n.toNat xs).flatten)))
theorem op_repT {X : Cx} : OpR X (binaryOp .Mult) (rRepT X.K) := by
  intro pins s σ H x y v u Q I rx ry h
  obtain ⟨l, k, xs, rfl, rfl, hH, hne, h1, h2, hz, q1, q2⟩ := h
  cases rx
  obtain ⟨t, rfl⟩ := ry
  obtain ⟨its, r, tp, _⟩ := I.tuple hH
  obtain ⟨⟨cls, dd, data, sl⟩, ho, hc, n, hd⟩ := id tp
  simp only at hc hd
  subst hc hd
  have hl := r.length
  have hie : ¬ its = [] := fun z => hne (r.nil_iff.mp z)
  by_cases hk : k = 1
  · subst hk
    refine wpAny_binaryOp_repeat_ref (T := "tuple") (U := "int") (by decide) ⟨_, ho, rfl⟩ (fun s' => typeIs_int s' 1 t) noFill_tuple_mul F.fills_int_mul F.slot_int_rmul repeat_tuple F.slot_int_index.lookup
      (call_meets F.slot_int_rmul (typeIs_int s 1 t) F.entry_int_rmul (F.args_int_rmul_2 _ _) (int_rmul_tuple 1 t l its.toArray n dd sl)
        ⟨ho, rfl, ⟨_, ho, rfl⟩, call_meets F.slot_tuple_mul ⟨_, ho, rfl⟩ F.entry_tuple_mul (F.args_tuple_mul_2 _ _) (tuple_mul1 l its.toArray n dd sl t (by simp) (by decide)) ⟨ho, ?_⟩⟩)
    exact ⟨.ref l, H, I, rfl, q1 rfl⟩
  · have hnew : List.foldl (fun x1 x2 => x1 ++ x2) #[] (List.replicate k.toNat its.toArray) = (List.replicate k.toNat its).flatten.toArray := by
      have := foldl_rep its k.toNat []
      rw [List.nil_append] at this
      exact this
    have hsm : (its.length : Int) * k ≤ 1000 * 1000 := by
      have a1 : (its.length : Int) ≤ 1000 := by omega
      have a2 : (0 : Int) ≤ its.length := by omega
      exact Int.le_trans (Int.mul_le_mul_of_nonneg_right a1 (by omega)) (Int.mul_le_mul_of_nonneg_left h2 (by decide))
    have hsn : k.toNat * its.length ≤ 1000 * 1000 := Nat.mul_le_mul (by omega) (by omega)
    have hsl : (sizeLine : Nat) = 2 ^ 24 := sizeLine_eq
    refine wpAny_binaryOp_repeat_ref (T := "tuple") (U := "int") (by decide) ⟨_, ho, rfl⟩ (fun s' => typeIs_int s' k t) noFill_tuple_mul F.fills_int_mul F.slot_int_rmul repeat_tuple F.slot_int_index.lookup
      (call_meets F.slot_int_rmul (typeIs_int s k t) F.entry_int_rmul (F.args_int_rmul_2 _ _) (int_rmul_tuple k t l its.toArray n dd sl)
        ⟨ho, rfl, ⟨_, ho, rfl⟩, call_meets F.slot_tuple_mul ⟨_, ho, rfl⟩ F.entry_tuple_mul (F.args_tuple_mul_2 _ _) (tuple_mul2 l its.toArray n dd sl k t ?_ ?_ ?_ ?_ ?_ ?_) ⟨ho, ?_⟩⟩)
    · simp [hie, hk]
    · simp; omega
    · simp [hie]; omega
    · simp only [List.size_toArray]; omega
    · unfold Builtin.Tuple.tupleTooMany; simp only [List.size_toArray]; simp; omega
    · rw [hnew, List.size_toArray, len_rep]; omega
    rw [hnew]
    refine ⟨.ref s.heap.objs.size, _, I.laid (t' := s.toks) (o := .tup (List.replicate k.toNat xs).flatten) (fun b ob q => Heap.get?_push_of_some _ q) (Nat.le_refl _) ?_, rfl, q2 hk _ (I.hok.fresh (Nat.le_refl _))⟩
    exact ⟨by rw [len_rep, hl]; omega, _, r.rep k.toNat, IsTup.new _ _⟩
theorem op_repTK {X : Cx} {K : PySem.W.Frag} (hK : X.K = K) : OpR X (binaryOp .Mult) (rRepT K) := by subst hK; exact op_repT
end L2
set_option Elab.async false
set_option linter.all false
set_option maxRecDepth 100000
set_option maxHeartbeats 4000000
namespace L2
open PySem PySem.Spec PyProof.Rows
section
variable {prog : Program} {w : World} {A : Around} {E : Value → Shared → Prop} {s : Shared}
theorem draw_lst {it l : Addr} {its : Array Value} (hne : l ≠ it) : ∀ (n i : Nat) (s : Shared) (Q : List Value → Shared → Prop), s.heap.IsListIter it l i → s.heap.IsList l its → i + n ≤ its.size →
    (∀ g, g.IsListIter it l (i + n) → Heap.SameBut it s.heap g → Q ((its.toList.drop i).take n) { s with heap := g }) → wpAny (model prog w) A (draw (.ref it) n) Q E s
  | 0, i, s, Q, hit, _, _, hQ => by
    show wpAny _ _ (pure []) Q E s
    exact wpAny_pure (by simpa using hQ s.heap hit (Heap.SameBut.refl ..))
  | n + 1, i, s, Q, hit, hl, hle, hQ => by
    have hlt : i < its.size := by omega
    show wpAny _ _ (pyNext (.ref it) >>= _) Q E s
    refine wpAny_bind (wpAny_pyNext_list_item hit hl (x := its[i]) (by simp [hlt]) fun g1 j1 e1 => ?_)
    refine wpAny_bind (wpAny_holding (draw_lst hne n (i + 1) _ _ j1 (hl.extBut e1.extBut hne) (by omega) fun g2 j2 e2 => wpAny_pure ?_))
    have hd : its.toList.drop i = its[i] :: its.toList.drop (i + 1) := by simp [List.drop_eq_getElem_cons, hlt]
    have z := hQ g2 (by rw [show i + (n + 1) = i + 1 + n by omega]; exact j2) (e1.trans e2)
    rw [hd, List.take_succ_cons] at z
    exact z
theorem unpack_lst {l : Addr} {its : Array Value} {targets : List (Bool × (Value → Sem Unit))} {Q : Unit → Shared → Prop} (hh : A.handled = none) (hl : s.heap.IsList l its) (hn : targets.length = its.size) (hstar : targets.findIdx? (·.1) = none)
    (h : ∀ g, Heap.ExtBut s.heap.objs.size s.heap g → wpAny (model prog w) A (assignInOrder (targets.map (·.2)) its.toList) Q E { s with heap := g }) : wpAny (model prog w) A (unpack (.ref l) targets) Q E s := by
  have hlt : l ≠ s.heap.objs.size := by obtain ⟨o, ho, _⟩ := hl; exact Nat.ne_of_lt (Heap.lt_size ho)
  unfold unpack
  rw [hn, hstar]
  refine wpAny_bind (wpAny_holding ?_)
  unfold unpackItems
  refine wpAny_bind ?_
  unfold notIterableAtAll
  refine wpAny_bind (wpAny_specialOf hl.typeIs slot_list_iter.lookup (wpAny_pure ?_))
  simp only [Bool.false_eq_true, if_false]
  refine wpAny_bind (wpAny_holding (wpAny_pyIter_list hl ?_))
  refine wpAny_bind (wpAny_holding (draw_lst hlt its.size 0 _ _ ⟨_, Heap.get?_push_size _ rfl, rfl, rfl⟩ (hl.push _) (by omega) fun g1 j1 e1 => ?_))
  have hall : List.take its.size (List.drop 0 its.toList) = its.toList := by
    rw [List.drop_zero]; exact List.take_of_length_le (by simp)
  rw [hall, if_neg (by simp)]
  refine wpAny_bind (wpAny_holding (wpAny_pyNext_list_end hh j1 ((hl.push _).extBut e1.extBut hlt) (by simp) fun g2 e2 => ?_))
  simp only [Option.isSome_none, Bool.false_eq_true, if_false]
  exact wpAny_pure (h g2 fun b o hb e => e2 b o hb (e1.extBut b o hb (Heap.get?_push_of_some _ e)))
end
def gLst (K : PySem.W.Frag) (n : Nat) (t : TGs) : TG := fun v σ H Q => ∃ a xs, v = .ref a ∧ SqL K H a xs ∧ xs.length = n ∧ t xs σ H Q
theorem pg_lstK {X : Cx} {K : PySem.W.Frag} {pos : Pos} {es : List Expr} {k : Nat} {t : TGs} {n : Nat} (hK : X.K = K) (hc : X.calm = true) (h : PGs X es t)
    (hn : (assignEach es X.env).length = n := by rfl) (hst : (assignEach es X.env).findIdx? (·.1) = none := by rfl) : PG X (.Tuple es k pos) (gLst K n t) := by
  subst hK
  intro pins s σ H v u Q I r hw
  obtain ⟨a, xs, e1, hq, hl, hw⟩ := hw
  subst e1
  cases r
  obtain ⟨its, rv, p, hz⟩ := I.list hq
  rw [PyProof.Rows.assign_Tuple]
  refine wpAny_bind (wpAny_standAt (unpack_lst (I.ok.hd hc) p.isList (by simp [hn, ← hl, rv.length]) hst fun g hx => ?_))
  have I1 : Inv X pins σ H { s with heap := g } := I.kept (t' := s.toks) fun b o e => hx b o (Nat.ne_of_lt (Heap.lt_size e)) e
  exact h pins _ σ H xs _ Q I1 (by simpa using rv) hw
end L2
namespace Mw
open PySem L2
def top (i : Nat) : Stmt := PySem.Challenge.pw_mendweights_k18_bounds_told.main.body.getD i (.Pass ⟨0, 0, 0, 0⟩)
def mem (i j : Nat) : Stmt := match top i with
  | .ClassDef _ _ _ body _ _ _ _ _ _ _ => body.getD j (.Pass ⟨0, 0, 0, 0⟩)
  | _ => .Pass ⟨0, 0, 0, 0⟩
abbrev BN : List Str := ["len", "isinstance", "tuple", "list", "int", "bool", "range", "enumerate", "zip", "min", "max", "sum", "all", "ValueError"]
structure Prog (K : PySem.W.Frag) (mg : Str → Option Value) (X_MendError X_NoSide X_NotParted X_NoFraction X_NoPoint X_NoRow X_NoTable X_NoText X_OneSide X_TooMany X_WrongBook : Addr) : Prop where
  x_MendError : ExR K mg "MendError" X_MendError
  x_NoSide : ExR K mg "NoSide" X_NoSide
  x_NotParted : ExR K mg "NotParted" X_NotParted
  x_NoFraction : ClN mg "NoFraction" X_NoFraction
  x_NoPoint : ClN mg "NoPoint" X_NoPoint
  x_NoRow : ClN mg "NoRow" X_NoRow
  x_NoTable : ClN mg "NoTable" X_NoTable
  x_NoText : ClN mg "NoText" X_NoText
  x_OneSide : ClN mg "OneSide" X_OneSide
  x_TooMany : ClN mg "TooMany" X_TooMany
  x_WrongBook : ClN mg "WrongBook" X_WrongBook
  a_NoSide : ExcA K X_NoSide
  k_NoSide_ValueError : PySem.W.kitOne K (.ref X_NoSide) (.type "ValueError") = some true
  k_NoSide_NoFraction : PySem.W.kitOne K (.ref X_NoSide) (.ref X_NoFraction) = some false
  k_NoSide_NoPoint : PySem.W.kitOne K (.ref X_NoSide) (.ref X_NoPoint) = some false
  k_NoSide_NoRow : PySem.W.kitOne K (.ref X_NoSide) (.ref X_NoRow) = some false
  k_NoSide_NoSide : PySem.W.kitOne K (.ref X_NoSide) (.ref X_NoSide) = some true
  k_NoSide_NoTable : PySem.W.kitOne K (.ref X_NoSide) (.ref X_NoTable) = some false
  k_NoSide_NoText : PySem.W.kitOne K (.ref X_NoSide) (.ref X_NoText) = some false
  k_NoSide_NotParted : PySem.W.kitOne K (.ref X_NoSide) (.ref X_NotParted) = some false
  k_NoSide_OneSide : PySem.W.kitOne K (.ref X_NoSide) (.ref X_OneSide) = some false
  k_NoSide_TooMany : PySem.W.kitOne K (.ref X_NoSide) (.ref X_TooMany) = some false
  k_NoSide_WrongBook : PySem.W.kitOne K (.ref X_NoSide) (.ref X_WrongBook) = some false
  a_NotParted : ExcA K X_NotParted
  k_NotParted_ValueError : PySem.W.kitOne K (.ref X_NotParted) (.type "ValueError") = some true
  k_NotParted_NoFraction : PySem.W.kitOne K (.ref X_NotParted) (.ref X_NoFraction) = some false
  k_NotParted_NoPoint : PySem.W.kitOne K (.ref X_NotParted) (.ref X_NoPoint) = some false
  k_NotParted_NoRow : PySem.W.kitOne K (.ref X_NotParted) (.ref X_NoRow) = some false
  k_NotParted_NoSide : PySem.W.kitOne K (.ref X_NotParted) (.ref X_NoSide) = some false
  k_NotParted_NoTable : PySem.W.kitOne K (.ref X_NotParted) (.ref X_NoTable) = some false
  k_NotParted_NoText : PySem.W.kitOne K (.ref X_NotParted) (.ref X_NoText) = some false
  k_NotParted_NotParted : PySem.W.kitOne K (.ref X_NotParted) (.ref X_NotParted) = some true
  k_NotParted_OneSide : PySem.W.kitOne K (.ref X_NotParted) (.ref X_OneSide) = some false
  k_NotParted_TooMany : PySem.W.kitOne K (.ref X_NotParted) (.ref X_TooMany) = some false
  k_NotParted_WrongBook : PySem.W.kitOne K (.ref X_NotParted) (.ref X_WrongBook) = some false
  e_NoSide_MendError : PySem.W.exmOne K (.ref X_NoSide) (.ref X_MendError) = some true
  e_NotParted_MendError : PySem.W.exmOne K (.ref X_NotParted) (.ref X_MendError) = some true
def sqP (r : List Int × Int) : Int := dot (r.1 ++ [1]) (r.1 ++ [1])
def spNumbers (K : PySem.W.Frag) : Sp := fun vs H Q _ => ∃ (a b : Addr) (as : List Addr) (m : Nat) (rs : List (List Int × Int)) (ws : List Int), vs = [.ref a, .ref b] ∧ SqL K H a (as.map V.ref) ∧ RowsAt K H as rs ∧ RowsOk m rs ∧ rs ≠ [] ∧ SqT K H b (ws.map V.int) ∧ ws.length ≤ 1000 ∧ (∀ x ∈ ws, Bits 900 x) ∧
  ∀ r H' (z f : Int), Same H H' → H r = none → H' r = some (.lst [.int z, .int f, .int (dot ws ws)]) → z ∈ gaps ws rs → (∀ b ∈ gaps ws rs, z ≤ b) → f ∈ rs.map sqP → (∀ b ∈ rs.map sqP, b ≤ f) → Q (.ref r) H'
theorem turn_two {s n : Int} (h : s = 0 ∨ s = 1) : (2 * s - 1) * n = turnF n s := by
  unfold turnF
  rcases h with rfl | rfl
  · rw [if_neg (by decide)]; omega
  · rw [if_pos rfl]; omega
theorem dot_even : ∀ {us xs : List Int}, (∀ u ∈ us, u % 2 = 0) → dot us xs % 2 = 0
  | [], _, _ => by simp [dot]
  | _ :: _, [], _ => by simp [dot]
  | u :: us, x :: xs, h => by
    have ih := dot_even (us := us) (xs := xs) fun w hw => h w (List.mem_cons_of_mem _ hw)
    have h1 := h u (List.mem_cons_self ..)
    rw [dot_cons]
    have h2 : u * x % 2 = 0 := by rw [Int.mul_emod, h1]; simp
    omega
theorem dot_odd {us xs : List Int} {c : Int} (hl : us.length = xs.length) (h : ∀ u ∈ us, u % 2 = 0) (hc : c % 2 = 1) : dot (us ++ [c]) (xs ++ [1]) ≠ 0 := by
  rw [dot_snoc _ _ _ _ hl]
  have := dot_even (xs := xs) h
  omega
def spParted18 (K : PySem.W.Frag) : Sp := fun vs H Q _ => ∃ (a : Addr) (ns : List Int) (n m od : Nat) (g : Int), vs = [.ref a, .int n, .int g, .int m, .int od] ∧ SqL K H a (ns.map V.int) ∧ 0 < n ∧ n ≤ 10 ∧ 0 < m ∧ m ≤ 4 ∧ 1 ≤ g ∧ g ≤ 1000 ∧ od ≤ 100 ∧
  ∀ r t rr ro H' (ws : List Int) (as : List Addr) (rs : List (List Int × Int)) (os : List Int), Same H H' → H r = none → H' r = some (.lst [.ref t, .ref rr, .ref ro]) → H' t = some (.tup (ws.map V.int)) → H' rr = some (.lst (as.map V.ref)) → RowsAt K H' as rs → RowsOk m rs → rs.length = n → ws.length = m + 1 →
    (∀ w ∈ ws, -10 ≤ w ∧ w ≤ 10) → (∀ r ∈ rs, 0 < turnF (dot ws (r.1 ++ [1])) r.2) → H' ro = some (.lst (os.map V.int)) → (∀ o ∈ os, 0 ≤ o ∧ o < n) → os.length = od → Q (.ref r) H'
def dblF (n : Nat) : Nat := if n ≤ 1 then 0 else if n ≤ 2 then 1 else if n ≤ 4 then 2 else if n ≤ 8 then 3 else 4
theorem dblF_least {n b : Nat} (h : n ≤ 12) (hb : b ≤ 4) (h1 : n ≤ 2 ^ b) (h2 : ∀ j, j < b → 2 ^ j < n) : b = dblF n := by
  have hn : n = 0 ∨ n = 1 ∨ n = 2 ∨ n = 3 ∨ n = 4 ∨ n = 5 ∨ n = 6 ∨ n = 7 ∨ n = 8 ∨ n = 9 ∨ n = 10 ∨ n = 11 ∨ n = 12 := by omega
  have hb2 : b = 0 ∨ b = 1 ∨ b = 2 ∨ b = 3 ∨ b = 4 := by omega
  rcases hb2 with e | e | e | e | e <;> subst e
  · rcases hn with h | h | h | h | h | h | h | h | h | h | h | h | h <;> subst h <;> first | rfl | (exfalso; revert h1; decide)
  · have := h2 0 (by decide)
    rcases hn with h | h | h | h | h | h | h | h | h | h | h | h | h <;> subst h <;> first | rfl | (exfalso; revert h1; decide) | (exfalso; revert this; decide)
  · have := h2 1 (by decide)
    rcases hn with h | h | h | h | h | h | h | h | h | h | h | h | h <;> subst h <;> first | rfl | (exfalso; revert h1; decide) | (exfalso; revert this; decide)
  · have := h2 2 (by decide)
    rcases hn with h | h | h | h | h | h | h | h | h | h | h | h | h <;> subst h <;> first | rfl | (exfalso; revert h1; decide) | (exfalso; revert this; decide)
  · have := h2 3 (by decide)
    rcases hn with h | h | h | h | h | h | h | h | h | h | h | h | h <;> subst h <;> first | rfl | (exfalso; revert h1; decide) | (exfalso; revert this; decide)
def spDoubl : Sp := fun vs H Q _ => ∃ n : Nat, vs = [.int n] ∧ n ≤ 12 ∧ Q (.int (dblF n)) H
def bndF (rs : List (List Int × Int)) (ws : List Int) (mg z : Int) : Int := (farF rs + 2 * mg) * dot ws ws / (z * z)
def spBnd (K : PySem.W.Frag) (xp : Addr) : Sp := fun vs H Q E => ∃ (a b : Addr) (as : List Addr) (m : Nat) (rs : List (List Int × Int)) (ws : List Int) (mg : Int), vs = [.ref a, .ref b, .int mg] ∧ SqL K H a (as.map V.ref) ∧ RowsAt K H as rs ∧ RowsOk m rs ∧ SqT K H b (ws.map V.int) ∧ ws.length ≤ 10 ∧ (∀ w ∈ ws, w.natAbs ≤ 1000000000) ∧ 0 ≤ mg ∧ mg ≤ 1000 ∧
  (((gaps ws rs).all fun n => decide (0 < n)) = false → ∀ H', Same H H' → E (.ref xp) none H') ∧ (rs = [] → ∀ H', Same H H' → Q (.int 0) H') ∧
  (((gaps ws rs).all fun n => decide (0 < n)) = true → rs ≠ [] → ∀ z H', Same H H' → z ∈ gaps ws rs → (∀ b ∈ gaps ws rs, z ≤ b) → Q (.int (bndF rs ws mg z)) H')
theorem far_abs {m : Nat} {rs : List (List Int × Int)} (h : RowsOk m rs) : 0 ≤ farF rs ∧ farF rs ≤ 5000000 := by
  obtain ⟨h1, _, h3⟩ := maxG (rs.map fun r => dot (r.1 ++ [1]) (r.1 ++ [1])) 0
  have e : farF rs = (rs.map fun r => dot (r.1 ++ [1]) (r.1 ++ [1])).foldl (fun m n => if n > m then n else m) 0 := rfl
  rw [e]
  refine ⟨h1, ?_⟩
  rcases h3 with z | z
  · rw [z]; decide
  · obtain ⟨r, hr, hz⟩ := List.mem_map.mp z
    rw [← hz]
    have hl := h.cnt r hr
    have hf := h.few
    have b := dot_abs (A := 1000) (B := 1000) (ws := r.1 ++ [1]) (xs := r.1 ++ [1]) (fun x hx => by have := Hnd.low_snoc (h.low r hr) x hx; omega) (fun x hx => by have := Hnd.low_snoc (h.low r hr) x hx; omega)
    rw [List.length_append, hl] at b
    have b2 : (m + [(1 : Int)].length) * (1000 * 1000) ≤ 5 * (1000 * 1000) := Nat.mul_le_mul_right _ (by show m + 1 ≤ 5; omega)
    omega
theorem far_le {rs : List (List Int × Int)} {r : List Int × Int} (h : r ∈ rs) : dot (r.1 ++ [1]) (r.1 ++ [1]) ≤ farF rs :=
  (maxG (rs.map fun r => dot (r.1 ++ [1]) (r.1 ++ [1])) 0).2.1 _ (List.mem_map.mpr ⟨r, h, rfl⟩)
theorem far_is {m : Nat} {rs : List (List Int × Int)} {f : Int} (h : f ∈ rs.map sqP) (h2 : ∀ b ∈ rs.map sqP, b ≤ f) : f = farF rs := by
  obtain ⟨r, hr, rfl⟩ := List.mem_map.mp h
  have h1 : sqP r ≤ farF rs := far_le hr
  obtain ⟨a1, _, a3⟩ := maxG (rs.map fun r => dot (r.1 ++ [1]) (r.1 ++ [1])) 0
  have e : farF rs = (rs.map fun r => dot (r.1 ++ [1]) (r.1 ++ [1])).foldl (fun m n => if n > m then n else m) 0 := rfl
  have h3 : farF rs ≤ sqP r := by
    rw [e]
    rcases a3 with z | z
    · rw [z]; exact dot_self_nonneg _
    · exact h2 _ z
  omega
theorem gap_abs {m : Nat} {rs : List (List Int × Int)} {ws : List Int} {z : Int} (h : RowsOk m rs) (hl : ws.length ≤ 10) (hw : ∀ w ∈ ws, w.natAbs ≤ 1000000000) (hz : z ∈ gaps ws rs) : z.natAbs ≤ 10000000000000 := by
  unfold gaps at hz
  obtain ⟨r, hr, rfl⟩ := List.mem_map.mp hz
  have b := dot_abs (A := 1000000000) (B := 1000) (ws := ws) (xs := r.1 ++ [1]) hw (fun x hx => by have := Hnd.low_snoc (h.low r hr) x hx; omega)
  have b2 : ws.length * (1000000000 * 1000) ≤ 10 * (1000000000 * 1000) := Nat.mul_le_mul_right _ hl
  unfold turnF
  split <;> omega
theorem sq_abs {ws : List Int} (hl : ws.length ≤ 10) (hw : ∀ w ∈ ws, w.natAbs ≤ 1000000000) : 0 ≤ dot ws ws ∧ dot ws ws ≤ 10000000000000000000 := by
  have b := dot_abs (A := 1000000000) (B := 1000000000) (ws := ws) (xs := ws) hw hw
  have b2 : ws.length * (1000000000 * 1000000000) ≤ 10 * (1000000000 * 1000000000) := Nat.mul_le_mul_right _ hl
  have := dot_self_nonneg ws
  omega
theorem small_bits9 {w : Int} (h : w.natAbs ≤ 1000000000) : Bits 900 w := Bits.mono (n := 40) (by
  show w.natAbs < 2 ^ 40
  have e : (2 : Nat) ^ 40 = 1099511627776 := by decide
  omega) (by decide)
theorem bits_of_abs {x : Int} {n : Nat} (h : x.natAbs ≤ 100000000000000000000000000000000000000000000) (hn : 200 ≤ n) : Bits n x := by
  refine Bits.mono (n := 200) ?_ hn
  show x.natAbs < 2 ^ 200
  have e : (2 : Nat) ^ 200 = 1606938044258990275541962092341162602522202993782792835301376 := by decide
  omega
structure RowsP (m : Nat) (rs : List (List Int × Int)) : Prop where
  pos : 0 < m
  few : m ≤ 4
  len : rs.length ≤ 200
  cnt : ∀ r ∈ rs, r.1.length = m
  low : ∀ r ∈ rs, ∀ x ∈ r.1, -1000 ≤ x ∧ x ≤ 1000
  sid : ∀ r ∈ rs, Bits 1900 r.2
theorem RowsOk.p {m : Nat} {rs : List (List Int × Int)} (h : RowsOk m rs) : RowsP m rs := ⟨h.pos, h.few, h.len, h.cnt, h.low, fun r hr => by
  rcases h.sid r hr with e | e <;> rw [e] <;> exact Bits.mono (n := 2) (by show _ < _; decide) (by decide)⟩
theorem RowsP.ok {m : Nat} {rs : List (List Int × Int)} (h : RowsP m rs) : RowsOk m (rs.map fun r => (r.1, 0)) := ⟨h.pos, h.few, by rw [List.length_map]; exact h.len, fun r hr => by
    obtain ⟨x, hx, rfl⟩ := List.mem_map.mp hr
    exact h.cnt x hx, fun r hr => by
    obtain ⟨x, hx, rfl⟩ := List.mem_map.mp hr
    exact h.low x hx, fun r hr => by
    obtain ⟨x, hx, rfl⟩ := List.mem_map.mp hr
    exact .inl rfl⟩
theorem far_sides (rs : List (List Int × Int)) : farF (rs.map fun r => (r.1, 0)) = farF rs := by
  unfold farF
  rw [List.map_map]; rfl
theorem RowsP.ne {m : Nat} {rs : List (List Int × Int)} {r : List Int × Int} (h : RowsP m rs) (hr : r ∈ rs) : r.1 ≠ [] := fun z => by
  have := h.cnt r hr
  have := h.pos
  rw [z] at *
  simp at *
  omega
theorem RowsP.bits {m : Nat} {rs : List (List Int × Int)} {r : List Int × Int} {n : Nat} (h : RowsP m rs) (hr : r ∈ rs) (hn : 10 ≤ n) : ∀ x ∈ r.1, Bits n x := fun x hx => by
  have := h.low r hr x hx
  have h1 : x.natAbs < 2 ^ 10 := by
    have e : (2 : Nat) ^ 10 = 1024 := by decide
    omega
  exact Bits.mono (n := 10) h1 hn
def spFarP (K : PySem.W.Frag) : Sp := fun vs H Q _ => ∃ (a : Addr) (as : List Addr) (m : Nat) (rs : List (List Int × Int)), vs = [.ref a] ∧ SqL K H a (as.map V.ref) ∧ RowsAt K H as rs ∧ RowsP m rs ∧ ∀ H', Same H H' → Q (.int (farF rs)) H'
def pdS (wss : List (List Int)) (pt : List Int) : List Int := wss.map fun ws => dot ws (pt ++ [1])
def othS (ps : List Int) (s : Nat) : List Int := ps.take s ++ ps.drop (s + 1)
def rgap (wss : List (List Int)) (pt : List Int) (s : Nat) : Int := (pdS wss pt).getD s 0 - topI (othS (pdS wss pt) s)
def gapsS (wss : List (List Int)) (rs : List (List Int × Int)) : List Int := rs.map fun r => rgap wss r.1 r.2.toNat
def sqS (wss : List (List Int)) : Int := (wss.map fun ws => dot ws ws).sum
def InS (n : Nat) (s : Int) : Prop := 0 ≤ s ∧ s < n
structure WsOk (wss : List (List Int)) : Prop where
  two : 2 ≤ wss.length
  few : wss.length ≤ 5
  len : ∀ ws ∈ wss, ws.length ≤ 10
  low : ∀ ws ∈ wss, ∀ w ∈ ws, w.natAbs ≤ 1000
theorem oth_ne {wss : List (List Int)} {pt : List Int} {s : Nat} (h : WsOk wss) (hs : s < wss.length) : 0 < (othS (pdS wss pt) s).length := by
  unfold othS pdS
  have := h.two
  rw [List.length_append, List.length_take, List.length_drop, List.length_map]
  omega
theorem pd_abs {wss : List (List Int)} {pt : List Int} (h : WsOk wss) (hp : ∀ x ∈ pt, -1000 ≤ x ∧ x ≤ 1000) {b : Int} (hb : b ∈ pdS wss pt) : b.natAbs ≤ 10000000 := by
  unfold pdS at hb
  obtain ⟨ws, hw, rfl⟩ := List.mem_map.mp hb
  have b := dot_abs (A := 1000) (B := 1000) (ws := ws) (xs := pt ++ [1]) (h.low ws hw) (fun x hx => by have := Hnd.low_snoc hp x hx; omega)
  have b2 : ws.length * (1000 * 1000) ≤ 10 * (1000 * 1000) := Nat.mul_le_mul_right _ (h.len ws hw)
  omega
theorem oth_mem {ps : List Int} {s : Nat} {b : Int} (h : b ∈ othS ps s) : b ∈ ps := by
  unfold othS at h
  rcases List.mem_append.mp h with h | h
  · exact List.mem_of_mem_take h
  · exact List.mem_of_mem_drop h
theorem rgap_abs {wss : List (List Int)} {pt : List Int} {s : Nat} (h : WsOk wss) (hp : ∀ x ∈ pt, -1000 ≤ x ∧ x ≤ 1000) (hs : s < wss.length) : (rgap wss pt s).natAbs ≤ 20000000 := by
  unfold rgap
  have hl : s < (pdS wss pt).length := by unfold pdS; rw [List.length_map]; exact hs
  have h1 := pd_abs h hp (List.getElem_mem hl)
  have h2 := pd_abs h hp (oth_mem (topI_mem (List.length_pos_iff.mp (oth_ne (pt := pt) h hs))))
  rw [List.getD_eq_getElem?_getD, List.getElem?_eq_getElem hl]
  show ((pdS wss pt)[s] - topI (othS (pdS wss pt) s)).natAbs ≤ _
  omega
theorem sqS_abs {wss : List (List Int)} (h : WsOk wss) : 0 ≤ sqS wss ∧ sqS wss ≤ 50000000 := by
  unfold sqS
  have hf := h.few
  have key : ∀ (l : List (List Int)), (∀ ws ∈ l, ws ∈ wss) → 0 ≤ (l.map fun ws => dot ws ws).sum ∧ (l.map fun ws => dot ws ws).sum ≤ l.length * 10000000 := by
    intro l
    induction l with
    | nil => intro _; simp
    | cons ws l ih =>
      intro hm
      obtain ⟨i1, i2⟩ := ih fun x hx => hm x (List.mem_cons_of_mem _ hx)
      have hw := hm ws (List.mem_cons_self ..)
      have b := dot_abs (A := 1000) (B := 1000) (ws := ws) (xs := ws) (h.low ws hw) (h.low ws hw)
      have b2 : ws.length * (1000 * 1000) ≤ 10 * (1000 * 1000) := Nat.mul_le_mul_right _ (h.len ws hw)
      have := dot_self_nonneg ws
      rw [List.map_cons, List.sum_cons, List.length_cons]
      omega
  have := key wss fun _ h => h
  omega
def spLookS (K : PySem.W.Frag) (ns : Addr) : Sp := fun vs H Q E => ∃ (a : Addr) (as : List Addr) (rs : List (List Int × Int)) (n : Nat), vs = [.ref a, .int n] ∧ SqL K H a (as.map V.ref) ∧ RowsAt K H as rs ∧ (∀ r ∈ rs, Bits 1900 r.2) ∧
  (∀ r ∈ rs, ¬ InS n r.2 → E (.ref ns) none H) ∧ ((∀ r ∈ rs, InS n r.2) → Q .non H)
def spRowGap (K : PySem.W.Frag) : Sp := fun vs H Q _ => ∃ (p b : Addr) (bs : List Addr) (xs : List Int) (s : Int) (wss : List (List Int)), vs = [.ref p, .int s, .ref b] ∧ SqT K H p (xs.map V.int) ∧ xs ≠ [] ∧ xs.length ≤ 4 ∧ (∀ x ∈ xs, -1000 ≤ x ∧ x ≤ 1000) ∧ SqT K H b (bs.map V.ref) ∧ TsAt H bs wss ∧ WsOk wss ∧ InS wss.length s ∧
  ∀ H', Same H H' → Q (.int (rgap wss xs s.toNat)) H'
def spSGap (K : PySem.W.Frag) (ns : Addr) : Sp := fun vs H Q E => ∃ (a b : Addr) (as bs : List Addr) (m : Nat) (rs : List (List Int × Int)) (wss : List (List Int)), vs = [.ref a, .ref b] ∧ SqL K H a (as.map V.ref) ∧ RowsAt K H as rs ∧ RowsP m rs ∧ SqT K H b (bs.map V.ref) ∧ TsAt H bs wss ∧ WsOk wss ∧
  (∀ r ∈ rs, ¬ InS wss.length r.2 → E (.ref ns) none H) ∧ ((∀ r ∈ rs, InS wss.length r.2) → rs ≠ [] ∧ ∀ z H', Same H H' → z ∈ gapsS wss rs → (∀ b ∈ gapsS wss rs, z ≤ b) → Q (.int z) H')
def spSBnd (K : PySem.W.Frag) (xp ns : Addr) : Sp := fun vs H Q E => ∃ (a b : Addr) (as bs : List Addr) (m : Nat) (rs : List (List Int × Int)) (wss : List (List Int)), vs = [.ref a, .ref b] ∧ SqL K H a (as.map V.ref) ∧ RowsAt K H as rs ∧ RowsP m rs ∧ SqT K H b (bs.map V.ref) ∧ TsAt H bs wss ∧ WsOk wss ∧
  (rs = [] → Q (.int 0) H) ∧ (∀ r ∈ rs, ¬ InS wss.length r.2 → E (.ref ns) none H) ∧
  ((∀ r ∈ rs, InS wss.length r.2) → rs ≠ [] → ∀ z H', Same H H' → z ∈ gapsS wss rs → (∀ b ∈ gapsS wss rs, z ≤ b) → (z ≤ 0 → E (.ref xp) none H') ∧ (0 < z → Q (.int (2 * farF rs * sqS wss / (z * z))) H'))
def spHalv : Sp := fun vs H Q _ => ∃ n k : Nat, vs = [.int n, .int k] ∧ 1 ≤ n ∧ n ≤ 12 ∧ k ≤ 12 ∧ Q (.int (3 * k * dblF n + 1)) H
theorem bits_dbl {n : Nat} (h1 : 1 ≤ n) (h2 : n ≤ 12) : Builtin.Int.intBits ((n : Int) - 1) = dblF n := by
  have : n = 1 ∨ n = 2 ∨ n = 3 ∨ n = 4 ∨ n = 5 ∨ n = 6 ∨ n = 7 ∨ n = 8 ∨ n = 9 ∨ n = 10 ∨ n = 11 ∨ n = 12 := by omega
  rcases this with h | h | h | h | h | h | h | h | h | h | h | h <;> subst h <;> decide +kernel
def spCaught (K : PySem.W.Frag) (xp ns : Addr) : Sp := fun vs H Q _ => ∃ (a b : Addr) (k : Int) (np : Bool), vs = [.ref a, .ref b, .int k] ∧
  ((k = 0 ∧ ∀ (Q' : VK) (E' : XK), (∀ H', Same H H' → E' (.ref (if np then xp else ns)) none H') → spBnd K xp [.ref a, .ref b, .int 1] H Q' E') ∨
   (k = 1 ∧ ∀ (Q' : VK) (E' : XK), (∀ H', Same H H' → E' (.ref (if np then xp else ns)) none H') → spSBnd K xp ns [.ref a, .ref b] H Q' E') ∨
   (k = 2 ∧ ∀ (Q' : VK) (E' : XK), (∀ H', Same H H' → E' (.ref (if np then xp else ns)) none H') → spSGap K ns [.ref a, .ref b] H Q' E')) ∧
  ∀ r H', Same H H' → H r = none → H' r = some (.lst [.bl np, .bl (!np)]) → Q (.ref r) H'
def spNotP (K : PySem.W.Frag) (xp ns : Addr) : Sp := fun vs H Q _ => ∃ (a b : Addr) (sv : Bool), vs = [.ref a, .ref b, .bl sv] ∧
  ((sv = false ∧ ∀ (Q' : VK) (E' : XK), (∀ H', Same H H' → E' (.ref xp) none H') → spBnd K xp [.ref a, .ref b, .int 1] H Q' E') ∨
   (sv = true ∧ ∀ (Q' : VK) (E' : XK), (∀ H', Same H H' → E' (.ref xp) none H') → spSBnd K xp ns [.ref a, .ref b] H Q' E')) ∧ ∀ H', Same H H' → Q (.bl true) H'
def bst (wss : List (List Int)) (pt : List Int) : Nat := (bestS (pdS wss pt)).headD 0
def spBest (K : PySem.W.Frag) : Sp := fun vs H Q _ => ∃ (b p : Addr) (bs : List Addr) (xs : List Int) (wss : List (List Int)), vs = [.ref b, .ref p] ∧ SqT K H p (xs.map V.int) ∧ xs.length ≤ 4 ∧ (∀ x ∈ xs, -1000 ≤ x ∧ x ≤ 1000) ∧ SqT K H b (bs.map V.ref) ∧ TsAt H bs wss ∧ WsOk wss ∧
  ∀ r H', Same H H' → H r = none → H' r = some (.lst [.int (bst wss xs), .int (rgap wss xs (bst wss xs))]) → Q (.ref r) H'
theorem best_lt {wss : List (List Int)} {pt : List Int} (h : WsOk wss) : bst wss pt < wss.length := by
  have hne : pdS wss pt ≠ [] := fun z => by
    have h1 : (pdS wss pt).length = wss.length := by unfold pdS; rw [List.length_map]
    have h2 := h.two
    rw [z, List.length_nil] at h1
    omega
  have hb := bestS_ne hne
  unfold bst
  cases e : bestS (pdS wss pt) with
  | nil => exact absurd e hb
  | cons j r =>
    have : j ∈ bestS (pdS wss pt) := by rw [e]; exact List.mem_cons_self ..
    unfold bestS at this
    have := List.mem_range.mp (List.mem_filter.mp this).1
    unfold pdS at this
    rw [List.length_map] at this
    exact this
def difs (wss : List (List Int)) (rs : List (List Int × Int)) : List Int := rs.flatMap fun r => (othS (pdS wss r.1) r.2.toNat).map fun o => (pdS wss r.1).getD r.2.toNat 0 - o
theorem oth_len {ps : List Int} {s : Nat} : (othS ps s).length ≤ ps.length := by
  unfold othS
  rw [List.length_append, List.length_take, List.length_drop]
  omega
theorem difs_len {wss : List (List Int)} (h : WsOk wss) : ∀ rs : List (List Int × Int), (difs wss rs).length ≤ rs.length * 5
  | [] => by simp [difs]
  | r :: rs => by
    have ih := difs_len h rs
    unfold difs at *
    rw [List.flatMap_cons, List.length_append, List.length_map, List.length_cons]
    have h1 := oth_len (ps := pdS wss r.1) (s := r.2.toNat)
    have h2 : (pdS wss r.1).length = wss.length := by unfold pdS; rw [List.length_map]
    have := h.few
    omega
theorem difs_snoc (wss : List (List Int)) (rs : List (List Int × Int)) (r : List Int × Int) : difs wss (rs ++ [r]) = difs wss rs ++ (othS (pdS wss r.1) r.2.toNat).map fun o => (pdS wss r.1).getD r.2.toNat 0 - o := by
  unfold difs
  rw [List.flatMap_append]; simp
theorem least_is {wss : List (List Int)} {rs : List (List Int × Int)} {z : Int} (hW : WsOk wss) (hin : ∀ r ∈ rs, InS wss.length r.2) (h1 : z ∈ difs wss rs) (h2 : ∀ b ∈ difs wss rs, z ≤ b) : z ∈ gapsS wss rs ∧ ∀ b ∈ gapsS wss rs, z ≤ b := by
  have key : ∀ r ∈ rs, rgap wss r.1 r.2.toNat ∈ difs wss rs := fun r hr => by
    have hs := hin r hr
    have hs1 := hs.1
    have hs2 := hs.2
    unfold difs
    refine List.mem_flatMap.mpr ⟨r, hr, List.mem_map.mpr ⟨topI (othS (pdS wss r.1) r.2.toNat), topI_mem (List.length_pos_iff.mp (oth_ne hW (by omega))), rfl⟩⟩
  refine ⟨?_, fun b hb => ?_⟩
  · have h3 := h1
    unfold difs at h3
    obtain ⟨r, hr, h4⟩ := List.mem_flatMap.mp h3
    obtain ⟨o, ho, rfl⟩ := List.mem_map.mp h4
    have a := h2 _ (key r hr)
    have b := topI_le ho
    have e : rgap wss r.1 r.2.toNat = (pdS wss r.1).getD r.2.toNat 0 - o := by unfold rgap at *; omega
    unfold gapsS
    exact List.mem_map.mpr ⟨r, hr, e⟩
  · unfold gapsS at hb
    obtain ⟨r, hr, rfl⟩ := List.mem_map.mp hb
    exact h2 _ (key r hr)
def spLeast (K : PySem.W.Frag) : Sp := fun vs H Q _ => ∃ (a b : Addr) (as bs : List Addr) (m : Nat) (rs : List (List Int × Int)) (wss : List (List Int)), vs = [.ref a, .ref b] ∧ SqL K H a (as.map V.ref) ∧ RowsAt K H as rs ∧ RowsP m rs ∧ rs ≠ [] ∧ rs.length ≤ 90 ∧ SqT K H b (bs.map V.ref) ∧ TsAt H bs wss ∧ WsOk wss ∧ (∀ r ∈ rs, InS wss.length r.2) ∧
  ∀ z H', Same H H' → z ∈ gapsS wss rs → (∀ b ∈ gapsS wss rs, z ≤ b) → Q (.int z) H'
theorem cutL_to {α : Type} (ns : List α) {hi : Int} (h0 : 0 ≤ hi) (h1 : hi ≤ (ns.length : Int)) : cutL ns none (some hi) = ns.take hi.toNat := by
  unfold cutL
  have e1 : HT.sIx ns.length ns.length (some hi) = hi.toNat := by
    show (if hi < 0 then (hi + (ns.length : Int)).toNat else min hi.toNat ns.length) = hi.toNat
    rw [if_neg (by omega)]; omega
  rw [e1]
  show (ns.drop 0).take (hi.toNat - 0) = _
  rw [List.drop_zero, Nat.sub_zero]
theorem cutL_from {α : Type} (ns : List α) {lo : Int} (h0 : 0 ≤ lo) (h1 : lo ≤ (ns.length : Int)) : cutL ns (some lo) none = ns.drop lo.toNat := by
  unfold cutL
  have e1 : HT.sIx ns.length 0 (some lo) = lo.toNat := by
    show (if lo < 0 then (lo + (ns.length : Int)).toNat else min lo.toNat ns.length) = lo.toNat
    rw [if_neg (by omega)]; omega
  rw [e1]
  show (ns.drop lo.toNat).take (ns.length - lo.toNat) = _
  rw [List.take_of_length_le (by rw [List.length_drop]; exact Nat.le_refl _)]
theorem rows_mid {K : PySem.W.Frag} {H : Hp} {as : List Addr} {rs : List (List Int × Int)} {A p : Addr} {r : List Int × Int} (k l : Nat) (h : RowsAt K H as rs) (h1 : SqT K H A [.ref p, .int r.2]) (h2 : SqT K H p (r.1.map V.int)) : RowsAt K H (as.take k ++ [A] ++ as.drop l) (rs.take k ++ [r] ++ rs.drop l) :=
  paired_append (paired_append (paired_take _ h) (.cons ⟨p, h1, h2⟩ .nil)) (paired_drop _ h)
theorem mem_mid {α : Type} {rs : List α} {r x : α} {k l : Nat} (h : x ∈ rs.take k ++ [r] ++ rs.drop l) : x = r ∨ x ∈ rs := by
  rcases List.mem_append.mp h with h | h
  · rcases List.mem_append.mp h with h | h
    · exact .inr (List.mem_of_mem_take h)
    · exact .inl (List.mem_singleton.mp h)
  · exact .inr (List.mem_of_mem_drop h)
theorem RowsP.mid {m : Nat} {rs : List (List Int × Int)} {r : List Int × Int} {k l : Nat} (h : RowsP m rs) (hl : rs.length ≤ 90) (h1 : r.1.length = m) (h2 : ∀ x ∈ r.1, -1000 ≤ x ∧ x ≤ 1000) (h3 : Bits 1900 r.2) : RowsP m (rs.take k ++ [r] ++ rs.drop l) := by
  refine ⟨h.pos, h.few, ?_, fun x hx => ?_, fun x hx => ?_, fun x hx => ?_⟩
  · rw [List.length_append, List.length_append, List.length_take, List.length_drop]; simp; omega
  · rcases mem_mid hx with e | e
    · rw [e]; exact h1
    · exact h.cnt x e
  · rcases mem_mid hx with e | e
    · rw [e]; exact h2
    · exact h.low x e
  · rcases mem_mid hx with e | e
    · rw [e]; exact h3
    · exact h.sid x e
def spNoSide (K : PySem.W.Frag) : Sp := fun vs H Q _ => ∃ (a b : Addr) (as bs : List Addr) (m : Nat) (rs : List (List Int × Int)) (wss : List (List Int)) (hd : Int), vs = [.ref a, .ref b, .int hd] ∧ SqL K H a (as.map V.ref) ∧ RowsAt K H as rs ∧ RowsP m rs ∧ rs.length ≤ 90 ∧ SqT K H b (bs.map V.ref) ∧ TsAt H bs wss ∧ WsOk wss ∧ (∀ ws ∈ wss, ws.length = m + 1) ∧ 0 ≤ hd ∧ hd < 1000000000000000 ∧
  ∀ H', Same H H' → Q (.bl true) H'
theorem op_repOne {X : Cx} {K : PySem.W.Frag} (hK : X.K = K) : OpR X (binaryOp .Mult) (fun x y H Q => ∃ (a : Addr) (n : Int) (v : V), x = .ref a ∧ y = .int n ∧ SqT K H a [v] ∧ 1 ≤ n ∧ n ≤ 1000 ∧ ∀ p H', Same H H' → SqT K H' p (List.replicate n.toNat v) → Q (.ref p) H') := by
  intro pins s σ H x y v u Q I rx ry h
  obtain ⟨a, n, v, e1, e2, hs, h1, h2, q⟩ := h
  refine op_repTK hK pins s σ H x y _ _ Q I rx ry ⟨a, n, [v], e1, e2, hs, by simp, h1, h2, by show 1 ≤ 1000; decide, fun e => q a H (Same.refl _) (by subst e; exact hs), fun _ p hp => q p _ (Same.new hp _) (SqT.of ?_)⟩
  rw [upd_same]
  congr 2
  induction n.toNat with
  | zero => rfl
  | succ k ih => rw [List.replicate_succ, List.replicate_succ, List.flatten_cons, ih]; rfl
theorem notIn_neg {n : Nat} : ¬ InS n (-1) := fun h => by have := h.1; omega
theorem RowsOk.mid {m : Nat} {rs : List (List Int × Int)} {r : List Int × Int} {k l : Nat} (h : RowsOk m rs) (hl : rs.length ≤ 90) (h1 : r.1.length = m) (h2 : ∀ x ∈ r.1, -1000 ≤ x ∧ x ≤ 1000) (h3 : r.2 = 0 ∨ r.2 = 1) : RowsOk m (rs.take k ++ [r] ++ rs.drop l) := by
  refine ⟨h.pos, h.few, ?_, fun x hx => ?_, fun x hx => ?_, fun x hx => ?_⟩
  · rw [List.length_append, List.length_append, List.length_take, List.length_drop]; simp; omega
  · rcases mem_mid hx with e | e
    · rw [e]; exact h1
    · exact h.cnt x e
  · rcases mem_mid hx with e | e
    · rw [e]; exact h2
    · exact h.low x e
  · rcases mem_mid hx with e | e
    · rw [e]; exact h3
    · exact h.sid x e
structure BadW (m : Nat) (rs : List (List Int × Int)) (fl : List Int) : Prop where
  len : fl.length = m + 1
  low : ∀ w ∈ fl, w.natAbs ≤ 1000000000
  bad : ((gaps fl rs).all fun n => decide (0 < n)) = false
theorem bad_of {ws : List Int} {rs : List (List Int × Int)} {r : List Int × Int} (hr : r ∈ rs) (h : turnF (dot ws (r.1 ++ [1])) r.2 ≤ 0) : ((gaps ws rs).all fun n => decide (0 < n)) = false := by
  cases e : ((gaps ws rs).all fun n => decide (0 < n)) with
  | false => rfl
  | true =>
    have := of_decide_eq_true (List.all_eq_true.mp e _ (by unfold gaps; exact List.mem_map.mpr ⟨r, hr, rfl⟩))
    omega
theorem dot_zeros : ∀ (n : Nat) (xs : List Int), dot (List.replicate n 0) xs = 0
  | 0, _ => by simp [dot]
  | n + 1, [] => by simp [dot]
  | n + 1, x :: xs => by rw [List.replicate_succ, dot_cons, dot_zeros n xs]; omega
theorem turn_zero (s : Int) : turnF 0 s = 0 := by unfold turnF; split <;> omega
theorem bad_zeros {m : Nat} {rs : List (List Int × Int)} (hne : rs ≠ []) : BadW m rs (List.replicate (m + 1) 0) := by
  refine ⟨by simp, fun w hw => by rw [(List.mem_replicate.mp hw).2]; decide, ?_⟩
  cases rs with
  | nil => exact absurd rfl hne
  | cons r t => exact bad_of (r := r) (List.mem_cons_self ..) (by rw [dot_zeros, turn_zero]; omega)
theorem dot_off {us xs : List Int} {c d : Int} (h : us.length = xs.length) : dot (us ++ [c - d]) (xs ++ [1]) = dot (us ++ [c]) (xs ++ [1]) - d := by
  rw [dot_snoc _ _ _ _ h, dot_snoc _ _ _ _ h]; omega
theorem at_last {us : List Int} {c : Int} : atI ((us ++ [c]).map V.int) (-1) = some (.int c) := by
  have e : ixN ((us ++ [c]).map V.int).length (-1) = some us.length := by
    unfold ixN
    rw [if_neg (by decide), List.length_map, List.length_append, List.length_singleton, if_pos (by omega)]
    congr 1
    omega
  unfold atI
  rw [e]
  show ((us ++ [c]).map V.int)[us.length]? = _
  simp
theorem cut_last {us : List Int} {c : Int} : cutV ((us ++ [c]).map V.int) none (some (-1)) = us.map V.int := by
  rw [cut_map]
  unfold cutI
  have e1 : HT.sIx (us ++ [c]).length (us ++ [c]).length (some (-1)) = us.length := by
    show (if (-1 : Int) < 0 then (-1 + ((us ++ [c]).length : Int)).toNat else min (-1 : Int).toNat (us ++ [c]).length) = us.length
    rw [if_pos (by decide), List.length_append, List.length_singleton]; omega
  rw [e1]
  show (((us ++ [c]).drop 0).take (us.length - 0)).map V.int = us.map V.int
  rw [List.drop_zero, Nat.sub_zero, List.take_left]
def spTwo (K : PySem.W.Frag) : Sp := fun vs H Q _ => ∃ (a b : Addr) (as : List Addr) (m : Nat) (rs : List (List Int × Int)) (ws : List Int) (hd : Int), vs = [.ref a, .ref b, .int hd] ∧ SqL K H a (as.map V.ref) ∧ RowsAt K H as rs ∧ RowsOk m rs ∧ rs ≠ [] ∧ rs.length ≤ 90 ∧ SqT K H b (ws.map V.int) ∧ ws.length = m + 1 ∧ (∀ w ∈ ws, -10 ≤ w ∧ w ≤ 10) ∧ (∀ r ∈ rs, 0 < turnF (dot ws (r.1 ++ [1])) r.2) ∧ 0 ≤ hd ∧
  ∀ H', Same H H' → Q (.bl true) H'
theorem turn_side {s y L : Int} (h0 : 0 ≤ s) (h1 : s < L) (h2 : 1 ≤ y) (h3 : y < L) : 0 ≤ (s + y) % L ∧ (s + y) % L < L ∧ (s + y) % L ≠ s := by
  by_cases h : s + y < L
  · rw [Int.emod_eq_of_lt (by omega) h]; omega
  · have e : s + y = (s + y - L) + L := by omega
    have e2 : (s + y) % L = s + y - L := by
      rw [e, Int.add_emod_right, Int.emod_eq_of_lt (by omega) (by omega)]
      omega
    rw [e2]; omega
theorem best_top {wss : List (List Int)} {pt : List Int} (h : WsOk wss) : (pdS wss pt)[bst wss pt]? = some (topI (pdS wss pt)) := by
  have hl := best_lt (pt := pt) h
  have hpl : (pdS wss pt).length = wss.length := by unfold pdS; rw [List.length_map]
  have hne : pdS wss pt ≠ [] := fun z => by rw [z] at hpl; simp at hpl; omega
  have hb := bestS_ne hne
  have hj : bst wss pt ∈ bestS (pdS wss pt) := by
    unfold bst
    cases e : bestS (pdS wss pt) with
    | nil => exact absurd e hb
    | cons j r => exact List.mem_cons_self ..
  unfold bestS at hj
  have h2 := of_decide_eq_true (List.mem_filter.mp hj).2
  rw [List.getD_eq_getElem?_getD] at h2
  rw [List.getElem?_eq_getElem (by omega)] at h2 ⊢
  rw [← h2]; rfl
theorem best_gap {wss : List (List Int)} {pt : List Int} (h : WsOk wss) : 0 ≤ rgap wss pt (bst wss pt) := by
  have hl := best_lt (pt := pt) h
  have h1 := topI_le (oth_mem (topI_mem (List.length_pos_iff.mp (oth_ne (pt := pt) h hl))))
  unfold rgap
  rw [List.getD_eq_getElem?_getD, best_top h]
  show 0 ≤ topI (pdS wss pt) - _
  omega
theorem mem_oth {ps : List Int} {j n : Nat} {x : Int} (h : ps[j]? = some x) (hn : j ≠ n) : x ∈ othS ps n := by
  unfold othS
  by_cases hj : j < n
  · exact List.mem_append_left _ (List.mem_of_getElem? (i := j) (by rw [List.getElem?_take, if_pos hj]; exact h))
  · exact List.mem_append_right _ (List.mem_of_getElem? (i := j - (n + 1)) (by rw [List.getElem?_drop]; rw [show n + 1 + (j - (n + 1)) = j by omega]; exact h))
theorem bent_gap {wss : List (List Int)} {pt : List Int} {n : Nat} (h : WsOk wss) (hn : n < wss.length) (hb : n ≠ bst wss pt) : rgap wss pt n ≤ 0 := by
  have hpl : (pdS wss pt).length = wss.length := by unfold pdS; rw [List.length_map]
  have h1 := topI_le (mem_oth (best_top (pt := pt) h) (Ne.symm hb))
  have h2 := topI_le (List.getElem_mem (l := pdS wss pt) (n := n) (by omega))
  unfold rgap
  rw [List.getD_eq_getElem?_getD, List.getElem?_eq_getElem (by omega)]
  show (pdS wss pt)[n] - _ ≤ 0
  omega
def rowsB (wss : List (List Int)) (pts : List (List Int)) : List (List Int × Int) := pts.map fun xs => (xs, ((bst wss xs : Nat) : Int))
def spSev (K : PySem.W.Frag) : Sp := fun vs H Q _ => ∃ (a b : Addr) (as bs : List Addr) (m : Nat) (pts : List (List Int)) (wss : List (List Int)) (hd : Int), vs = [.ref a, .ref b, .int hd] ∧ SqL K H a (as.map V.ref) ∧ PtsAt K H as pts ∧ 0 < m ∧ m ≤ 4 ∧ pts.length ≤ 90 ∧ (∀ p ∈ pts, p.length = m) ∧ (∀ p ∈ pts, ∀ x ∈ p, -1000 ≤ x ∧ x ≤ 1000) ∧ SqT K H b (bs.map V.ref) ∧ TsAt H bs wss ∧ WsOk wss ∧ (∀ ws ∈ wss, ws.length = m + 1) ∧ 0 ≤ hd ∧ hd < 1000000000000000 ∧
  ∀ H', Same H H' → Q (.bl true) H'
theorem rowsB_in {wss : List (List Int)} {pts : List (List Int)} (h : WsOk wss) : ∀ r ∈ rowsB wss pts, InS wss.length r.2 := fun r hr => by
  obtain ⟨xs, _, rfl⟩ := List.mem_map.mp hr
  have := best_lt (pt := xs) h
  exact ⟨by show (0 : Int) ≤ ((bst wss xs : Nat) : Int); omega, by show ((bst wss xs : Nat) : Int) < _; omega⟩
theorem rowsB_p {m : Nat} {wss : List (List Int)} {pts : List (List Int)} (h : WsOk wss) (h1 : 0 < m) (h2 : m ≤ 4) (h3 : pts.length ≤ 90) (h4 : ∀ p ∈ pts, p.length = m) (h5 : ∀ p ∈ pts, ∀ x ∈ p, -1000 ≤ x ∧ x ≤ 1000) : RowsP m (rowsB wss pts) := by
  refine ⟨h1, h2, by unfold rowsB; rw [List.length_map]; omega, fun r hr => ?_, fun r hr => ?_, fun r hr => ?_⟩
  · obtain ⟨xs, hx, rfl⟩ := List.mem_map.mp hr
    exact h4 xs hx
  · obtain ⟨xs, hx, rfl⟩ := List.mem_map.mp hr
    exact h5 xs hx
  · have h7 := rowsB_in (pts := pts) h r hr
    have h8 := h.few
    exact (small_bits9 (w := r.2) (by have := h7.1; have := h7.2; omega)).mono (by decide)
theorem gapsB {wss : List (List Int)} {pts : List (List Int)} : gapsS wss (rowsB wss pts) = pts.map fun xs => rgap wss xs (bst wss xs) := by
  unfold gapsS rowsB
  rw [List.map_map]
  refine List.map_congr_left fun xs _ => ?_
  show rgap wss xs (((bst wss xs : Nat) : Int)).toNat = _
  rw [Int.toNat_natCast]
theorem sqB {wss : List (List Int)} {pts : List (List Int)} : (rowsB wss pts).map sqP = pts.map fun xs => dot (xs ++ [1]) (xs ++ [1]) := by
  unfold rowsB
  rw [List.map_map]; rfl
theorem pts_of {K : PySem.W.Frag} {H : Hp} : ∀ {ys : List V} {pts : List (List Int)}, ys.length = pts.length → (∀ (j : Nat) y p, ys[j]? = some y → pts[j]? = some p → ∃ t, y = .ref t ∧ SqT K H t (p.map V.int)) → ∃ as : List Addr, ys = as.map V.ref ∧ PtsAt K H as pts
  | [], [], _, _ => ⟨[], rfl, .nil⟩
  | [], _ :: _, h, _ => by simp at h
  | _ :: _, [], h, _ => by simp at h
  | y :: ys, p :: pts, hl, h => by
    obtain ⟨t, e, h1⟩ := h 0 y p rfl rfl
    obtain ⟨as, e2, h3⟩ := pts_of (ys := ys) (pts := pts) (by simpa using hl) fun j y r a b => h (j + 1) y r (by simpa using a) (by simpa using b)
    exact ⟨t :: as, by rw [e, e2]; rfl, .cons h1 h3⟩
theorem PtsAt.cut {K : PySem.W.Frag} {H : Hp} {as : List Addr} {rs : List (List Int)} (h : PtsAt K H as rs) (lo hi : Option Int) : PtsAt K H (cutL as lo hi) (cutL rs lo hi) := by
  have e : as.length = rs.length := Paired.length h
  unfold cutL
  rw [e]
  exact paired_take _ (paired_drop _ h)
theorem cutL_in {α : Type} {xs : List α} {lo hi : Option Int} {x : α} (h : x ∈ cutL xs lo hi) : x ∈ xs := by
  unfold cutL at h
  exact List.mem_of_mem_drop (List.mem_of_mem_take h)
theorem cutL_len {α : Type} (xs : List α) (lo hi : Option Int) : (cutL xs lo hi).length ≤ xs.length := by
  unfold cutL
  rw [List.length_take, List.length_drop]
  omega
theorem rows_deep {K : PySem.W.Frag} {H : Hp} {as : List Addr} {rs : List (List Int × Int)} (h : RowsAt K H as rs) : Paired (Deep K H 2) (as.map V.ref) (as.map V.ref) := by
  induction h with
  | nil => exact .nil
  | cons h1 _ ih =>
    obtain ⟨p, q1, q2⟩ := h1
    refine .cons (.inr ⟨_, _, _, _, rfl, rfl, .inr ⟨q1, q1⟩, .cons (.inr ⟨p, p, _, _, rfl, rfl, .inr ⟨q2, q2⟩, Deep.all (by rw [List.all_eq_true]; intro x hx; obtain ⟨y, _, rfl⟩ := List.mem_map.mp hx; rfl)⟩) (.cons (Deep.same rfl) .nil)⟩) ih
end Mw
namespace Mw
open PySem L2
section
variable {P : Program} {w : World} {K : PySem.W.Frag} {mg : Str → Option Value} {base : Heap} {f : Addr} {fd : FuncData} {X_MendError X_NoSide X_NotParted X_NoFraction X_NoPoint X_NoRow X_NoTable X_NoText X_OneSide X_TooMany X_WrongBook : Addr}
theorem sc_product : FnScope ["one", "other"] ["one", "other"] (defScope (top 13)) := ⟨rfl, rfl, rfl, by decide +kernel, rfl, by decide +kernel, by decide +kernel⟩
theorem ok_product (F : Fun K "product" "product" (top 13) f fd) (T : Txt BN mg) : FnOk P w K mg base CX0 1 f fd ["one", "other"] (spProd K) := by
  refine F.ok sc_product (fun vs H Q E h => ?_) (fun cdv A outer s H vs Q E hr h => ?_)
  · obtain ⟨a, b, b1, b2, xs, ys, rfl, _⟩ := h
    rfl
  obtain ⟨a, b, b1, b2, xs, ys, rfl, hA, hB, hl, hx, hy, q⟩ := h
  refine ⟨_, (pss_one (ps_ret (pe_callB (call_sumI rfl) rfl (T.nb "sum" (by decide)) (by decide +kernel) (pa_cons (pe_comp (sc := defScope (top 13)) (N := ["one", "other"]) (NB := ["first", "second"]) (fr := [none, none]) rfl (by decide +kernel) (pi_zip rfl (T.nb "zip" (by decide)) (pa_cons (pv 0) (pa_cons (pv 1) pa_nil))) (fun _ _ _ _ => (pg_tupK (K := K) (n := 2) rfl rfl (pgs_cons (pg_name (i := 0) (show (["first", "second"] : List Str).Nodup by decide +kernel) rfl (Or.inl rfl)) (pgs_cons (pg_name (i := 1) (show (["first", "second"] : List Str).Nodup by decide +kernel) rfl (Or.inl rfl)) pgs_nil)))) (fun _ _ _ _ => .nil) (fun _ _ _ _ => (pe_op op_mulB (pv 0) (pv 1)))) pa_nil)))), ?_⟩
  refine ⟨_, rfl, _, rfl, b1, b2, a, b, rfl, ⟨_, hA⟩, ⟨_, hB⟩, fun D hD => ?_⟩
  refine comp_zip (us := xs.map V.int) (vs := ys.map V.int) (fun i zs H' => zs = (((List.zipWith (· * ·) xs ys).take i).map V.int) ∧ Same H H' ∧ H' D = some (.lst zs)) ⟨by simp, Same.new hD _, upd_same⟩
    (fun i zs H' hi ⟨e1, _, e3⟩ => ⟨e3, by rw [e1, List.length_map, List.length_take]; omega⟩) (fun i zs H' _ ⟨_, e2, _⟩ => ⟨e2.seqB hA, e2.seqB hB⟩) (by rw [List.length_map]; exact Nat.le_of_lt (small1000 hl)) ?_ ?_
  · rintro i x y T0 zs H' hx0 hy0 hT0 ⟨e1, e2, e3⟩
    obtain ⟨x1, hx1, rfl⟩ := of_map hx0
    obtain ⟨y1, hy1, rfl⟩ := of_map hy0
    have hTD : D ≠ T0 := ne_of_none e3 hT0
    refine ⟨T0, _, rfl, SqT.of upd_same, rfl, _, _, rfl, _, _, rfl, rfl, wk_none (n := 2) rfl, ?_⟩
    refine tYes_then ?_
    refine ⟨_, rfl, _, rfl, _, _, rfl, rfl, ⟨1000, by decide, hx x1 (List.mem_of_getElem? hx1), hy y1 (List.mem_of_getElem? hy1)⟩, by rw [upd_ne hTD]; exact e3, ?_, (e2.trans (Same.new hT0 _)).upd_old hD, upd_same⟩
    rw [take_snoc (zip_get hx1 hy1), List.map_append, e1]; rfl
  · rintro zs H' ⟨e1, e2, e3⟩
    refine ⟨D, List.zipWith (· * ·) xs ys, rfl, .inl (.inl ?_), q H' e2⟩
    rw [e3, e1, List.take_of_length_le (by rw [List.length_zipWith, List.length_map, List.length_map]; exact Nat.le_refl _)]
end
end Mw
namespace Mw
open PySem L2
section
variable {P : Program} {w : World} {K : PySem.W.Frag} {mg : Str → Option Value} {base : Heap} {f : Addr} {fd : FuncData} {X_MendError X_NoSide X_NotParted X_NoFraction X_NoPoint X_NoRow X_NoTable X_NoText X_OneSide X_TooMany X_WrongBook : Addr}
theorem sc_square : FnScope ["one"] ["one"] (defScope (top 14)) := ⟨rfl, rfl, rfl, by decide +kernel, rfl, by decide +kernel, by decide +kernel⟩
theorem ok_square (F : Fun K "square" "square" (top 14) f fd) (T : Txt BN mg) (c_product : Cal P w K mg base 1 "product" ["one", "other"] (spProd K)) : FnOk P w K mg base CX0 2 f fd ["one"] (spSquare K) := by
  refine F.ok sc_square (fun vs H Q E h => ?_) (fun cdv A outer s H vs Q E hr h => ?_)
  · obtain ⟨a, b1, xs, rfl, _⟩ := h
    rfl
  obtain ⟨a, b1, xs, rfl, hA, hl, hx, q⟩ := h
  refine ⟨_, (pss_one (ps_ret (pe_cal c_product (hr.mono (by decide)) rfl (pa_cons (pv 0) (pa_cons (pv 0) pa_nil))))), ?_⟩
  exact ⟨_, rfl, _, rfl, a, a, b1, b1, xs, xs, rfl, hA, hA, hl, hx, hx, q⟩
end
end Mw
namespace Mw
open PySem L2
section
variable {P : Program} {w : World} {K : PySem.W.Frag} {mg : Str → Option Value} {base : Heap} {f : Addr} {fd : FuncData} {X_MendError X_NoSide X_NotParted X_NoFraction X_NoPoint X_NoRow X_NoTable X_NoText X_OneSide X_TooMany X_WrongBook : Addr}
theorem sc_lifted : FnScope ["point"] ["point"] (defScope (top 15)) := ⟨rfl, rfl, rfl, by decide +kernel, rfl, by decide +kernel, by decide +kernel⟩
theorem ok_lifted (F : Fun K "lifted" "lifted" (top 15) f fd) (T : Txt BN mg) : FnOk P w K mg base CX0 1 f fd ["point"] (spLift K) := by
  refine F.ok sc_lifted (fun vs H Q E h => ?_) (fun cdv A outer s H vs Q E hr h => ?_)
  · obtain ⟨a, xs, rfl, _⟩ := h
    rfl
  obtain ⟨a, xs, rfl, hA, hne, hl, q⟩ := h
  refine ⟨_, (pss_one (ps_ret (pe_op (op_catTK (K := K) rfl) (pv 0) (pe_tup (pa_cons pe_int pa_nil))))), ?_⟩
  refine ⟨_, rfl, (by show 1 ≤ sizeLine; decide), fun p hp => ?_⟩
  have s1 := Same.new hp (.tup [.int 1])
  refine ⟨a, p, _, _, rfl, rfl, s1.seqT hA, SqT.of upd_same, ?_, ?_, fun z => (nomatch z), fun _ r hr0 => ?_⟩
  · intro z; exact hne (List.map_eq_nil_iff.mp z)
  · rw [List.length_map]; exact Nat.le_of_lt (small1000 (by show xs.length + 1 ≤ 1000; omega))
  · refine q r _ (s1.trans (Same.new hr0 _)) (s1.free hr0) ?_
    rw [upd_same, List.map_append]; rfl
end
end Mw
namespace Mw
open PySem L2
section
variable {P : Program} {w : World} {K : PySem.W.Frag} {mg : Str → Option Value} {base : Heap} {f : Addr} {fd : FuncData} {X_MendError X_NoSide X_NotParted X_NoFraction X_NoPoint X_NoRow X_NoTable X_NoText X_OneSide X_TooMany X_WrongBook : Addr}
theorem sc_told_by : FnScope ["weights", "point"] ["weights", "point"] (defScope (top 16)) := ⟨rfl, rfl, rfl, by decide +kernel, rfl, by decide +kernel, by decide +kernel⟩
theorem ok_told_by (F : Fun K "told_by" "told_by" (top 16) f fd) (T : Txt BN mg) (c_product : Cal P w K mg base 1 "product" ["one", "other"] (spProd K)) (c_lifted : Cal P w K mg base 1 "lifted" ["point"] (spLift K)) : FnOk P w K mg base CX0 2 f fd ["weights", "point"] (spTold K) := by
  refine F.ok sc_told_by (fun vs H Q E h => ?_) (fun cdv A outer s H vs Q E hr h => ?_)
  · obtain ⟨a, b, b1, ws, xs, rfl, _⟩ := h
    rfl
  obtain ⟨a, b, b1, ws, xs, rfl, hA, hB, hne, hl, hl2, hw, hx, q⟩ := h
  refine ⟨_, (pss_one (ps_ret (pe_cal c_product (hr.mono (by decide)) rfl (pa_cons (pv 0) (pa_cons (pe_cal c_lifted (hr.mono (by decide)) rfl (pa_cons (pv 1) pa_nil)) pa_nil))))), ?_⟩
  refine ⟨_, rfl, _, rfl, b, xs, rfl, hB, hne, hl, fun r H1 s1 hr0 hR => ?_⟩
  exact ⟨a, r, b1, true, ws, xs ++ [1], rfl, s1.seqB hA, SqT.of hR, hl2, hw, bits_snoc (by decide) hx, fun H2 s2 => q H2 (s1.trans s2)⟩
end
end Mw
namespace Mw
open PySem L2
section
variable {P : Program} {w : World} {K : PySem.W.Frag} {mg : Str → Option Value} {base : Heap} {f : Addr} {fd : FuncData} {X_MendError X_NoSide X_NotParted X_NoFraction X_NoPoint X_NoRow X_NoTable X_NoText X_OneSide X_TooMany X_WrongBook : Addr}
theorem sc_turned : FnScope ["number", "side"] ["number", "side"] (defScope (top 17)) := ⟨rfl, rfl, rfl, by decide +kernel, rfl, by decide +kernel, by decide +kernel⟩
theorem ok_turned (F : Fun K "turned" "turned" (top 17) f fd) (T : Txt BN mg) : FnOk P w K mg base CX0 1 f fd ["number", "side"] spTurned := by
  refine F.ok sc_turned (fun vs H Q E h => ?_) (fun cdv A outer s H vs Q E hr h => ?_)
  · obtain ⟨n, s, rfl, _⟩ := h
    rfl
  obtain ⟨n, sd, rfl, q⟩ := h
  refine ⟨_, (pss_one (ps_ret (pe_ifExp (pt_cmpR op_eq (pv 1) pe_int (nomark _)) (pv 0) (pe_un un_neg (pv 0))))), ?_⟩
  refine ⟨_, rfl, rfl, _, rfl, ?_⟩
  refine iteD (fun z => ?_) (fun z => ?_)
  · have e : sd = 1 := by injection z
    unfold turnF at q
    rw [if_pos e] at q
    exact ⟨_, rfl, q⟩
  · have e : ¬ sd = 1 := fun y => z (by rw [y])
    unfold turnF at q
    rw [if_neg e] at q
    exact ⟨_, rfl, _, rfl, q⟩
end
end Mw
namespace Mw
open PySem L2
section
variable {P : Program} {w : World} {K : PySem.W.Frag} {mg : Str → Option Value} {base : Heap} {f : Addr} {fd : FuncData} {X_MendError X_NoSide X_NotParted X_NoFraction X_NoPoint X_NoRow X_NoTable X_NoText X_OneSide X_TooMany X_WrongBook : Addr}
theorem sc_turned_products : FnScope ["rows", "weights"] ["rows", "weights"] (defScope (top 18)) := ⟨rfl, rfl, rfl, by decide +kernel, rfl, by decide +kernel, by decide +kernel⟩
theorem ok_turned_products (F : Fun K "turned_products" "turned_products" (top 18) f fd) (T : Txt BN mg) (c_turned : Cal P w K mg base 1 "turned" ["number", "side"] spTurned) (c_told_by : Cal P w K mg base 2 "told_by" ["weights", "point"] (spTold K)) : FnOk P w K mg base CX0 3 f fd ["rows", "weights"] (spTurnedAll K) := by
  refine F.ok sc_turned_products (fun vs H Q E h => ?_) (fun cdv A outer s H vs Q E hr h => ?_)
  · obtain ⟨m, rs, ws, ⟨a, b, as, rfl, _⟩, _⟩ := h
    rfl
  obtain ⟨m, rs, ws, ⟨a, b, as, rfl, hA, hR, hO, hW, hw⟩, q⟩ := h
  refine ⟨_, (pss_one (ps_ret (pe_comp (sc := defScope (top 18)) (N := ["rows", "weights"]) (NB := ["point", "side", "weights"]) (fr := [none, none, some 1]) rfl (by decide +kernel) (pi_list (pv 0)) (fun _ _ _ _ => (pg_tupK (K := K) (n := 2) rfl rfl (pgs_cons (pg_name (i := 0) (show (["point", "side", "weights"] : List Str).Nodup by decide +kernel) rfl (Or.inl rfl)) (pgs_cons (pg_name (i := 1) (show (["point", "side", "weights"] : List Str).Nodup by decide +kernel) rfl (Or.inl rfl)) pgs_nil)))) (fun _ _ _ _ => .nil) (fun _ _ _ _ => (pe_cal c_turned (hr.mono (by decide)) rfl (pa_cons (pe_cal c_told_by (hr.mono (by decide)) rfl (pa_cons (pv 2) (pa_cons (pv 0) pa_nil))) (pa_cons (pv 1) pa_nil))))))), ?_⟩
  have hlen : as.length = rs.length := Paired.length hR
  refine ⟨_, rfl, a, rfl, ⟨_, hA⟩, fun D hD => ?_⟩
  refine comp_list (xs := as.map V.ref) (fun i zs H' => zs = ((gaps ws (rs.take i)).map V.int) ∧ Same H H' ∧ H' D = some (.lst zs)) ⟨by simp [gaps], Same.new hD _, upd_same⟩
    (fun i zs H' hi ⟨e1, _, e3⟩ => ⟨e3, by rw [e1, List.length_map, gaps_length, List.length_take]; omega⟩) (fun i zs H' _ ⟨_, e2, _⟩ => e2.seq hA) (by rw [List.length_map, hlen]; exact Nat.le_of_lt (small1000 (by have := hO.len; omega))) ?_ ?_
  · rintro i x zs H' hi ⟨e1, e2, e3⟩
    obtain ⟨y, hy, rfl⟩ := of_map hi
    obtain ⟨r, hr1, p, hq1, hq2⟩ := paired_get hR hy
    have hm := List.mem_of_getElem? hr1
    refine ⟨y, _, rfl, e2.seqT hq1, rfl, _, _, rfl, _, _, rfl, rfl, ⟨rfl, ?_⟩, ?_⟩
    · intro j v ej
      match j, ej with
      | 2, ej => exact ej
      | 0, ej => simp [carry] at ej
      | 1, ej => simp [carry] at ej
      | j + 3, ej => simp [carry] at ej
    refine tYes_then ?_
    refine ⟨_, rfl, _, rfl, b, p, true, ws, r.1, rfl, e2.seqT hW, e2.seqT hq2, hO.ne hm, by rw [hO.cnt r hm]; have := hO.few; omega, hw.len, hw.bits, hO.bits hm (by decide), fun H1 s1 => ?_⟩
    refine ⟨_, rfl, _, _, rfl, s1 _ _ e3, ?_, (e2.trans s1).upd_old hD, upd_same⟩
    rw [take_snoc hr1, e1]
    unfold gaps
    rw [List.map_append, List.map_append]; rfl
  · rintro zs H' ⟨e1, e2, e3⟩
    rw [List.length_map, hlen, List.take_length] at e1
    subst e1
    exact q D H' e2 hD e3
end
end Mw
namespace Mw
open PySem L2
section
variable {P : Program} {w : World} {K : PySem.W.Frag} {mg : Str → Option Value} {base : Heap} {f : Addr} {fd : FuncData} {X_MendError X_NoSide X_NotParted X_NoFraction X_NoPoint X_NoRow X_NoTable X_NoText X_OneSide X_TooMany X_WrongBook : Addr}
theorem sc_are_parted : FnScope ["rows", "weights"] ["rows", "weights"] (defScope (top 19)) := ⟨rfl, rfl, rfl, by decide +kernel, rfl, by decide +kernel, by decide +kernel⟩
theorem ok_are_parted (F : Fun K "are_parted" "are_parted" (top 19) f fd) (T : Txt BN mg) (c_turned_products : Cal P w K mg base 3 "turned_products" ["rows", "weights"] (spTurnedAll K)) : FnOk P w K mg base CX0 4 f fd ["rows", "weights"] (spParted K) := by
  refine F.ok sc_are_parted (fun vs H Q E h => ?_) (fun cdv A outer s H vs Q E hr h => ?_)
  · obtain ⟨m, rs, ws, ⟨a, b, as, rfl, _⟩, _⟩ := h
    rfl
  obtain ⟨m, rs, ws, ⟨a, b, as, rfl, hA, hR, hO, hW, hw⟩, q⟩ := h
  refine ⟨_, (pss_one (ps_ret (pe_callB (call_allB rfl) rfl (T.nb "all" (by decide)) (by decide +kernel) (pa_cons (pe_comp (sc := defScope (top 19)) (N := ["rows", "weights"]) (NB := ["number"]) (fr := [none]) rfl (by decide +kernel) (pi_list (pe_cal c_turned_products (hr.mono (by decide)) rfl (pa_cons (pv 0) (pa_cons (pv 1) pa_nil)))) (fun _ _ _ _ => (pg_name (i := 0) (show (["number"] : List Str).Nodup by decide +kernel) rfl (Or.inl rfl))) (fun _ _ _ _ => .nil) (fun _ _ _ _ => (pe_cmpR op_gt (pv 0) pe_int (nomark _)))) pa_nil)))), ?_⟩
  refine ⟨_, rfl, _, rfl, m, rs, ws, ⟨a, b, as, rfl, hA, hR, hO, hW, hw⟩, fun r H1 s1 hr0 hG => ?_⟩
  refine ⟨r, rfl, ⟨_, SqL.of hG⟩, fun D hD => ?_⟩
  refine comp_list (xs := (gaps ws rs).map V.int) (fun i zs H' => zs = (((gaps ws rs).take i).map fun n => V.bl (decide (0 < n))) ∧ Same H1 H' ∧ H' D = some (.lst zs)) ⟨by simp, Same.new hD _, upd_same⟩
    (fun i zs H' hi ⟨e1, _, e3⟩ => ⟨e3, by rw [e1, List.length_map, List.length_take]; omega⟩) (fun i zs H' _ ⟨_, e2, _⟩ => e2.seq (SqL.of hG)) (by rw [List.length_map, gaps_length]; exact Nat.le_of_lt (small1000 (by have := hO.len; omega))) ?_ ?_
  · rintro i x zs H' hi ⟨e1, e2, e3⟩
    obtain ⟨n, hn, rfl⟩ := of_map hi
    refine ⟨wk_none (n := 1) rfl, ?_⟩
    refine tYes_then ?_
    refine ⟨_, rfl, _, _, rfl, rfl, e3, ?_, e2.upd_old hD, upd_same⟩
    rw [take_snoc hn, List.map_append, e1]; rfl
  · rintro zs H' ⟨e1, e2, e3⟩
    rw [List.length_map, List.take_length] at e1
    subst e1
    refine ⟨D, (gaps ws rs).map (fun n => decide (0 < n)), rfl, .inl (.inl (by rw [List.map_map]; exact e3)), ?_⟩
    have e : (((gaps ws rs).map fun n => decide (0 < n)).all id) = (gaps ws rs).all fun n => decide (0 < n) := by rw [List.all_map]; rfl
    rw [e]
    exact q H' (s1.trans e2)
end
end Mw
namespace Mw
open PySem L2
section
variable {P : Program} {w : World} {K : PySem.W.Frag} {mg : Str → Option Value} {base : Heap} {f : Addr} {fd : FuncData} {X_MendError X_NoSide X_NotParted X_NoFraction X_NoPoint X_NoRow X_NoTable X_NoText X_OneSide X_TooMany X_WrongBook : Addr}
theorem sc_gap_on : FnScope ["rows", "weights"] ["rows", "weights"] (defScope (top 20)) := ⟨rfl, rfl, rfl, by decide +kernel, rfl, by decide +kernel, by decide +kernel⟩
theorem ok_gap_on (F : Fun K "gap_on" "gap_on" (top 20) f fd) (T : Txt BN mg) (c_turned_products : Cal P w K mg base 3 "turned_products" ["rows", "weights"] (spTurnedAll K)) : FnOk P w K mg base CX0 4 f fd ["rows", "weights"] (spGap K) := by
  refine F.ok sc_gap_on (fun vs H Q E h => ?_) (fun cdv A outer s H vs Q E hr h => ?_)
  · obtain ⟨m, rs, ws, ⟨a, b, as, rfl, _⟩, _⟩ := h
    rfl
  obtain ⟨m, rs, ws, ⟨a, b, as, rfl, hA, hR, hO, hW, hw⟩, hne, q⟩ := h
  refine ⟨_, (pss_one (ps_ret (pe_callB (call_minL rfl) rfl (T.nb "min" (by decide)) (by decide +kernel) (pa_cons (pe_cal c_turned_products (hr.mono (by decide)) rfl (pa_cons (pv 0) (pa_cons (pv 1) pa_nil))) pa_nil)))), ?_⟩
  refine ⟨_, rfl, _, rfl, m, rs, ws, ⟨a, b, as, rfl, hA, hR, hO, hW, hw⟩, fun r H1 s1 hr0 hG => ?_⟩
  refine ⟨r, gaps ws rs, rfl, SqL.of hG, ?_, fun z h1 h2 => q z H1 s1 h1 h2⟩
  rw [gaps_length]
  exact List.length_pos_iff.mpr hne
end
end Mw
namespace Mw
open PySem L2
section
variable {P : Program} {w : World} {K : PySem.W.Frag} {mg : Str → Option Value} {base : Heap} {f : Addr} {fd : FuncData} {X_MendError X_NoSide X_NotParted X_NoFraction X_NoPoint X_NoRow X_NoTable X_NoText X_OneSide X_TooMany X_WrongBook : Addr}
theorem sc_farthest : FnScope ["rows"] ["rows"] (defScope (top 21)) := ⟨rfl, rfl, rfl, by decide +kernel, rfl, by decide +kernel, by decide +kernel⟩
theorem ok_farthest (F : Fun K "farthest" "farthest" (top 21) f fd) (T : Txt BN mg) (c_square : Cal P w K mg base 2 "square" ["one"] (spSquare K)) (c_lifted : Cal P w K mg base 1 "lifted" ["point"] (spLift K)) : FnOk P w K mg base CX0 3 f fd ["rows"] (spFarP K) := by
  refine F.ok sc_farthest (fun vs H Q E h => ?_) (fun cdv A outer s H vs Q E hr h => ?_)
  · obtain ⟨a, as, m, rs, rfl, _⟩ := h
    rfl
  obtain ⟨a, as, m, rs, rfl, hA, hR, hO, q⟩ := h
  refine ⟨_, (pss_one (ps_ret (pe_callBK (call_maxD rfl) rfl (T.nb "max" (by decide)) (by decide +kernel) (pa_cons (pe_comp (sc := defScope (top 21)) (N := ["rows"]) (NB := ["point", "side"]) (fr := [none, none]) rfl (by decide +kernel) (pi_list (pv 0)) (fun _ _ _ _ => (pg_tupK (K := K) (n := 2) rfl rfl (pgs_cons (pg_name (i := 0) (show (["point", "side"] : List Str).Nodup by decide +kernel) rfl (Or.inl rfl)) (pgs_cons (pg_name (i := 1) (show (["point", "side"] : List Str).Nodup by decide +kernel) rfl (Or.inl rfl)) pgs_nil)))) (fun _ _ _ _ => .nil) (fun _ _ _ _ => (pe_cal c_square (hr.mono (by decide)) rfl (pa_cons (pe_cal c_lifted (hr.mono (by decide)) rfl (pa_cons (pv 0) pa_nil)) pa_nil)))) pa_nil) pe_int))), ?_⟩
  have hlen : as.length = rs.length := Paired.length hR
  refine ⟨_, rfl, a, rfl, ⟨_, hA⟩, fun D hD => ?_⟩
  refine comp_list (xs := as.map V.ref) (fun i zs H' => zs = (((rs.take i).map fun r => V.int (dot (r.1 ++ [1]) (r.1 ++ [1])))) ∧ Same H H' ∧ H' D = some (.lst zs)) ⟨by simp, Same.new hD _, upd_same⟩
    (fun i zs H' hi ⟨e1, _, e3⟩ => ⟨e3, by rw [e1, List.length_map, List.length_take]; omega⟩) (fun i zs H' _ ⟨_, e2, _⟩ => e2.seq hA) (by rw [List.length_map, hlen]; exact Nat.le_of_lt (small1000 (by have := hO.len; omega))) ?_ ?_
  · rintro i x zs H' hi ⟨e1, e2, e3⟩
    obtain ⟨y, hy, rfl⟩ := of_map hi
    obtain ⟨r, hr1, p, hq1, hq2⟩ := paired_get hR hy
    have hm := List.mem_of_getElem? hr1
    refine ⟨y, _, rfl, e2.seqT hq1, rfl, _, _, rfl, _, _, rfl, rfl, wk_none (n := 2) rfl, ?_⟩
    refine tYes_then ?_
    refine ⟨_, rfl, p, r.1, rfl, e2.seqT hq2, hO.ne hm, by rw [hO.cnt r hm]; have := hO.few; omega, fun t H1 s1 ht0 hT => ?_⟩
    refine ⟨t, true, r.1 ++ [1], rfl, SqT.of hT, by rw [List.length_append, hO.cnt r hm]; have := hO.few; show m + 1 ≤ 1000; omega, bits_snoc (by decide) (hO.bits hm (by decide)), fun H2 s2 => ?_⟩
    refine ⟨s2 _ _ (s1 _ _ e3), ?_, ((e2.trans s1).trans s2).upd_old hD, upd_same⟩
    rw [take_snoc hr1, List.map_append, e1]; rfl
  · rintro zs H' ⟨e1, e2, e3⟩
    rw [List.length_map, hlen, List.take_length] at e1
    subst e1
    refine ⟨D, rs.map (fun r => dot (r.1 ++ [1]) (r.1 ++ [1])), 0, rfl, rfl, .inl (.inl (by rw [List.map_map]; exact e3)), fun z hz => ?_⟩
    have e := maxF_eq (ns := rs.map fun r => dot (r.1 ++ [1]) (r.1 ++ [1])) (m := z) (fun n hn => by
      obtain ⟨r, _, rfl⟩ := List.mem_map.mp hn
      exact dot_self_nonneg _) hz
    rw [e]
    exact q H' e2
end
end Mw
namespace Mw
open PySem L2
section
variable {P : Program} {w : World} {K : PySem.W.Frag} {mg : Str → Option Value} {base : Heap} {f : Addr} {fd : FuncData} {X_MendError X_NoSide X_NotParted X_NoFraction X_NoPoint X_NoRow X_NoTable X_NoText X_OneSide X_TooMany X_WrongBook : Addr}
theorem sc_look_at_sides : FnScope ["rows", "sides", "point", "side"] ["rows", "sides"] (defScope (top 22)) := ⟨rfl, rfl, rfl, by decide +kernel, rfl, by decide +kernel, by decide +kernel⟩
theorem ok_look_at_sides (F : Fun K "look_at_sides" "look_at_sides" (top 22) f fd) (T : Txt BN mg) (PR : Prog K mg X_MendError X_NoSide X_NotParted X_NoFraction X_NoPoint X_NoRow X_NoTable X_NoText X_OneSide X_TooMany X_WrongBook) : FnOk P w K mg base (CXE P w) 3 f fd ["rows", "sides"] (spLookS K X_NoSide) := by
  refine F.okX sc_look_at_sides (fun vs H Q E h => ?_) (fun cdv A outer s H vs Q E hr h => ?_)
  · obtain ⟨a, as, rs, n, rfl, _⟩ := h
    rfl
  obtain ⟨a, as, rs, n, rfl, hA, hR, hS, hE, q⟩ := h
  refine ⟨_, (pss_one (ps_for PassesOwn.leaving rfl (pi_list (pv 0)) (pg_tupK (K := K) (n := 2) rfl rfl (pgs_cons (pg_name (i := 2) sc_look_at_sides.nd rfl (Or.inl rfl)) (pgs_cons (pg_name (i := 3) sc_look_at_sides.nd rfl (Or.inl rfl)) pgs_nil))) (pss_one (ps_if (pt_not (pt_chain op_le op_lt pe_int (pv 3) (pv 1))) (pss_one (ps_raise rfl PR.x_NoSide.c rfl PR.x_NoSide.g raiseG_out (pa_cons (pe_fstr (pv 3) (by decide)) pa_nil))) pss_nil)))), ?_⟩
  have hal : as.length = rs.length := Paired.length hR
  refine ⟨_, rfl, a, rfl, ⟨_, hA⟩, ?_⟩
  refine for_list (xs := as.map V.ref) (fun i σ H' => ∃ v2 v3 : Option V, σ = [some (.ref a), some (.int n), v2, v3] ∧ H' = H ∧ ∀ r ∈ rs.take i, InS n r.2) ⟨none, none, rfl, rfl, fun r hr => by simp at hr⟩
    (fun i σ H' _ ⟨_, _, _, e, _⟩ => by rw [e]; exact hA) ?_ ?_
  · rintro i x σ H' hx ⟨v2, v3, rfl, rfl, hin⟩
    obtain ⟨A0, hA1, rfl⟩ := of_map hx
    obtain ⟨r, hr1, p, hr2, hr3⟩ := paired_get hR hA1
    have hrm := List.mem_of_getElem? hr1
    refine ⟨A0, _, rfl, hr2, rfl, _, _, rfl, _, _, rfl, rfl, ?_⟩
    refine ⟨_, rfl, _, _, rfl, rfl, _, rfl, ?_⟩
    refine iteD (fun z => ?_) (fun z => ?_)
    · have z1 : (0 : Int) ≤ r.2 := z
      refine ⟨_, rfl, _, _, rfl, rfl, _, rfl, ?_⟩
      refine iteND (fun z2 => ?_) (fun z2 => ?_)
      · have z3 : ¬ r.2 < (n : Int) := z2
        exact ⟨_, rfl, _, rfl, hS r hrm, fun y => ⟨(by show 1 ≤ sizeLine; decide), hE r hrm fun n => z3 n.2⟩⟩
      · have z3 : r.2 < (n : Int) := z2
        refine ⟨_, _, rfl, rfl, fun y hy => ?_⟩
        rw [take_snoc hr1] at hy
        rcases List.mem_append.mp hy with u | u
        · exact hin y u
        · rw [List.mem_singleton.mp u]; exact ⟨z1, z3⟩
    · have z1 : ¬ (0 : Int) ≤ r.2 := z
      refine ⟨_, rfl, ?_⟩
      refine iteT ?_
      exact ⟨_, rfl, _, rfl, hS r hrm, fun y => ⟨(by show 1 ≤ sizeLine; decide), hE r hrm fun n => z1 n.1⟩⟩
  · rintro σ H' ⟨v2, v3, rfl, rfl, hin⟩
    rw [List.length_map, hal, List.take_length] at hin
    exact q hin
end
end Mw
namespace Mw
open PySem L2
section
variable {P : Program} {w : World} {K : PySem.W.Frag} {mg : Str → Option Value} {base : Heap} {f : Addr} {fd : FuncData} {X_MendError X_NoSide X_NotParted X_NoFraction X_NoPoint X_NoRow X_NoTable X_NoText X_OneSide X_TooMany X_WrongBook : Addr}
theorem sc_bound_of : FnScope ["rows", "weights", "margin", "gap"] ["rows", "weights", "margin"] (defScope (top 24)) := ⟨rfl, rfl, rfl, by decide +kernel, rfl, by decide +kernel, by decide +kernel⟩
theorem ok_bound_of {dT : Addr} {dds : List Value} (F : FunD K "bound_of" "bound_of" (top 24) dT dds f fd) (T : Txt BN mg) (PR : Prog K mg X_MendError X_NoSide X_NotParted X_NoFraction X_NoPoint X_NoRow X_NoTable X_NoText X_OneSide X_TooMany X_WrongBook) (c_are_parted : Cal P w K mg base 4 "are_parted" ["rows", "weights"] (spParted K)) (c_gap_on : Cal P w K mg base 4 "gap_on" ["rows", "weights"] (spGap K)) (c_farthest : Cal P w K mg base 3 "farthest" ["rows"] (spFarP K)) (c_square : Cal P w K mg base 2 "square" ["one"] (spSquare K)) : FnOk P w K mg base (CXE P w) 6 f fd ["rows", "weights", "margin"] (spBnd K X_NotParted) := by
  refine F.okX sc_bound_of (fun vs H Q E h => ?_) (fun cdv A outer s H vs Q E hr h => ?_)
  · obtain ⟨a, b, as, m, rs, ws, mg, rfl, _⟩ := h
    rfl
  obtain ⟨a, b, as, m, rs, ws, mg, rfl, hA, hR, hO, hB, hl, hw, hm0, hm1, hE, q0, q⟩ := h
  refine ⟨_, (pss_cons (ps_if (pt_not (pt_val (pe_cal c_are_parted (hr.mono (by decide)) rfl (pa_cons (pv 0) (pa_cons (pv 1) pa_nil))))) (pss_one (ps_raise rfl PR.x_NotParted.c rfl PR.x_NotParted.g raiseG_out (pa_cons pe_str pa_nil))) pss_nil)
      (pss_cons (ps_if (pt_cmpR op_eq (pe_callB (call_lenK (K := K) rfl) rfl (T.nb "len" (by decide)) (by decide +kernel) (pa_cons (pv 0) pa_nil)) pe_int (nomark _)) (pss_one (ps_ret pe_int)) pss_nil)
      (pss_cons (ps_set (i := 3) sc_bound_of.nd rfl (Or.inl rfl) (pe_cal c_gap_on (hr.mono (by decide)) rfl (pa_cons (pv 0) (pa_cons (pv 1) pa_nil))))
      (pss_one (ps_ret (pe_op op_fdivP (pe_op op_mulB (pe_op op_add (pe_cal c_farthest (hr.mono (by decide)) rfl (pa_cons (pv 0) pa_nil)) (pe_op op_mulB pe_int (pv 2))) (pe_cal c_square (hr.mono (by decide)) rfl (pa_cons (pv 1) pa_nil))) (pe_op op_mulB (pv 3) (pv 3)))))))), ?_⟩
  have hW : WOk ws := ⟨by omega, fun x hx => (small_bits9 (hw x hx)).mono (by decide)⟩
  refine ⟨_, rfl, _, rfl, m, rs, ws, ⟨a, b, as, rfl, hA, hR, hO, hB, hW⟩, fun H1 s1 => ⟨_, rfl, ?_⟩⟩
  cases hb : ((gaps ws rs).all fun n => decide (0 < n)) with
  | false =>
    refine iteT ?_
    exact ⟨(by show 1 ≤ sizeLine; decide), hE hb H1 s1⟩
  | true =>
    refine iteF ?_
    have hal : as.length = rs.length := Paired.length hR
    refine ⟨_, rfl, a, _, rfl, .inl (s1.seq hA), rfl, _, rfl, ?_⟩
    refine iteD (fun z => ?_) (fun z => ?_)
    · have z1 : as.length = 0 := by rw [List.length_map] at z; injection z with z2; omega
      exact q0 (List.length_eq_zero_iff.mp (by omega)) H1 s1
    · have hne : rs ≠ [] := fun y => z (by rw [List.length_map, hal, y]; rfl)
      refine ⟨_, rfl, _, rfl, m, rs, ws, ⟨a, b, as, rfl, s1.seq hA, hR.same s1, hO, s1.seqT hB, hW⟩, hne, fun gz H2 s2 hz1 hz2 => ?_⟩
      have s12 := s1.trans s2
      have hgp : 0 < gz := of_decide_eq_true (List.all_eq_true.mp hb gz hz1)
      have hgb := gap_abs hO hl hw hz1
      obtain ⟨f0, f1⟩ := far_abs hO
      obtain ⟨q1, q2⟩ := sq_abs hl hw
      refine ⟨_, rfl, a, as, m, rs, rfl, s12.seq hA, hR.same s12, hO.p, fun H3 s3 => ?_⟩
      have s13 := s12.trans s3
      refine ⟨_, rfl, _, _, rfl, rfl, mul64 (by decide) (by decide) (by omega) (by omega), _, _, rfl, rfl, _, rfl, b, true, ws, rfl, s13.seqT hB, by omega, fun x hx => (small_bits9 (hw x hx)).mono (by decide), fun H4 s4 => ?_⟩
      have hgg : 0 < gz * gz := Int.mul_pos hgp hgp
      have hggb : (gz * gz).natAbs ≤ 10000000000000 * 10000000000000 := by rw [Int.natAbs_mul]; exact Nat.mul_le_mul hgb hgb
      refine ⟨_, _, rfl, rfl, ⟨1000, by decide, bits_of_abs (by show (farF rs + 2 * mg).natAbs ≤ _; omega) (by decide), bits_of_abs (by omega) (by decide)⟩, _, rfl, _, rfl, _, _, rfl, rfl, ⟨1000, by decide, bits_of_abs (by omega) (by decide), bits_of_abs (by omega) (by decide)⟩, _, _, rfl, rfl, ⟨hgg, bits_of_abs (by omega) (by decide)⟩, ?_⟩
      exact q hb hne gz H4 (s13.trans s4) hz1 hz2
end
end Mw
namespace Mw
open PySem L2
section
variable {P : Program} {w : World} {K : PySem.W.Frag} {mg : Str → Option Value} {base : Heap} {f : Addr} {fd : FuncData} {X_MendError X_NoSide X_NotParted X_NoFraction X_NoPoint X_NoRow X_NoTable X_NoText X_OneSide X_TooMany X_WrongBook : Addr}
theorem sc_row_gap : FnScope ["point", "side", "weights", "products"] ["point", "side", "weights"] (defScope (top 25)) := ⟨rfl, rfl, rfl, by decide +kernel, rfl, by decide +kernel, by decide +kernel⟩
theorem ok_row_gap (F : Fun K "row_gap" "row_gap" (top 25) f fd) (T : Txt BN mg) (c_told_by : Cal P w K mg base 2 "told_by" ["weights", "point"] (spTold K)) : FnOk P w K mg base CX0 3 f fd ["point", "side", "weights"] (spRowGap K) := by
  refine F.ok sc_row_gap (fun vs H Q E h => ?_) (fun cdv A outer s H vs Q E hr h => ?_)
  · obtain ⟨p, b, bs, xs, s0, wss, rfl, _⟩ := h
    rfl
  obtain ⟨p, b, bs, xs, s0, wss, rfl, hP, hne, hx4, hxl, hB, hT, hW, hs, q⟩ := h
  refine ⟨_, (pss_cons (ps_comp (i := 3) sc_row_gap.nd rfl rfl (sc := defScope (top 25)) (N := ["point", "side", "weights", "products"]) (NB := ["some", "point"]) (fr := [none, some 0]) rfl (by decide +kernel) (pi_tup (pv 2)) (fun _ _ _ _ => (pg_name (i := 0) (show (["some", "point"] : List Str).Nodup by decide +kernel) rfl (Or.inl rfl))) (fun _ _ _ _ => .nil) (fun _ _ _ _ => (pe_cal c_told_by (hr.mono (by decide)) rfl (pa_cons (pv 0) (pa_cons (pv 1) pa_nil)))))
      (pss_one (ps_ret (pe_op op_sub (pe_ix (ix_listK (K := K) rfl) (pv 3) (pv 1) (fun _ _ => rfl)) (pe_callB (call_maxL rfl) rfl (T.nb "max" (by decide)) (by decide +kernel) (pa_cons (pe_op op_cat (pe_slice (sl_listK (K := K) rfl) (pv 3) po_none (po_some (pv 1))) (pe_slice (sl_listK (K := K) rfl) (pv 3) (po_some (pe_op op_add (pv 1) pe_int)) po_none)) pa_nil)))))), ?_⟩
  have hbl : bs.length = wss.length := Paired.length hT
  have hw5 := hW.few
  refine ⟨_, rfl, b, rfl, ⟨_, hB⟩, fun D hD => ?_⟩
  refine comp_tup_rel (xs := bs.map V.ref) (fun _ i y => ∀ ws, wss[i]? = some ws → y = .int (dot ws (xs ++ [1]))) (fun _ _ _ _ _ h => h) hB (by rw [List.length_map, hbl]; exact Nat.le_of_lt (small1000 (by omega))) hD ?_ ?_
  · rintro i x H1 R hx s1 _ hq
    obtain ⟨A0, hA1, rfl⟩ := of_map hx
    obtain ⟨ws, hw1, hw2⟩ := paired_get hT hA1
    have hwm := List.mem_of_getElem? hw1
    refine ⟨wk1 rfl, ?_⟩
    refine ⟨_, rfl, _, rfl, A0, p, true, ws, xs, rfl, s1.seqB (SqT.of hw2), s1.seqT hP, hne, by omega, by have := hW.len ws hwm; omega, fun w hw => (small_bits9 (w := w) (by have := hW.low ws hwm w hw; omega)).mono (by decide), fun x hx => ?_, fun H2 s2 => hq _ H2 s2 fun ws2 hw2 => ?_⟩
    · have hx1 := hxl x hx
      exact (small_bits9 (w := x) (by omega)).mono (by decide)
    · rw [hw1] at hw2; cases hw2; rfl
  rintro zs H1 s1 hD1 hz1 hz2
  rw [List.length_map, hbl] at hz1
  have ez : zs = (pdS wss xs).map V.int := by
    unfold pdS
    rw [List.map_map]
    exact ys_map hz1 fun j y r h1 h2 => hz2 j y h1 r h2
  subst ez
  obtain ⟨n, rfl⟩ := Int.eq_ofNat_of_zero_le hs.1
  have hn : n < wss.length := by have := hs.2; omega
  have hpl : (pdS wss xs).length = wss.length := by unfold pdS; rw [List.length_map]
  have hl : n < (pdS wss xs).length := by omega
  refine ⟨_, rfl, _, rfl, D, _, _, _, rfl, rfl, SqL.of hD1, at_k (k := n) (v := .int ((pdS wss xs)[n])) (by rw [List.getElem?_map, List.getElem?_eq_getElem hl]; rfl) rfl, ?_⟩
  refine ⟨_, rfl, _, rfl, (n : Int), rfl, D, _, rfl, SqL.of hD1, fun p1 hp1 => ?_⟩
  rw [cut_map, cutI_to _ (by omega) (by omega), Int.toNat_natCast]
  have s2 := Same.new hp1 (.lst (((pdS wss xs).take n).map V.int))
  refine ⟨_, rfl, _, rfl, _, _, rfl, rfl, (n : Int) + 1, rfl, D, _, rfl, SqL.of (s2 _ _ hD1), fun p2 hp2 => ?_⟩
  rw [cut_map, cutI_from _ (by omega) (by omega)]
  have e1 : ((n : Int) + 1).toNat = n + 1 := by omega
  rw [e1]
  have s3 := Same.new hp2 (.lst (((pdS wss xs).drop (n + 1)).map V.int))
  refine ⟨p1, p2, _, _, rfl, rfl, s3 _ _ upd_same, upd_same, by rw [List.length_map, List.length_map, List.length_take, List.length_drop]; exact Nat.le_of_lt (small1000 (by omega)), fun p3 hp3 => ?_⟩
  refine ⟨p3, othS (pdS wss xs) n, rfl, SqL.of (by rw [upd_same]; unfold othS; rw [List.map_append]), oth_ne hW hn, fun mx hm1 hm2 => ?_⟩
  have em := topI_eq hm1 hm2
  subst em
  refine ⟨_, _, rfl, rfl, ?_⟩
  have eg : rgap wss xs ((n : Int)).toNat = (pdS wss xs)[n] - topI (othS (pdS wss xs) n) := by
    unfold rgap
    rw [Int.toNat_natCast, List.getD_eq_getElem?_getD, List.getElem?_eq_getElem hl]
    rfl
  rw [eg] at q
  exact q _ (s1.trans (s2.trans (s3.trans (Same.new hp3 _))))
end
end Mw
namespace Mw
open PySem L2
section
variable {P : Program} {w : World} {K : PySem.W.Frag} {mg : Str → Option Value} {base : Heap} {f : Addr} {fd : FuncData} {X_MendError X_NoSide X_NotParted X_NoFraction X_NoPoint X_NoRow X_NoTable X_NoText X_OneSide X_TooMany X_WrongBook : Addr}
theorem sc_sides_gap : FnScope ["rows", "weights"] ["rows", "weights"] (defScope (top 26)) := ⟨rfl, rfl, rfl, by decide +kernel, rfl, by decide +kernel, by decide +kernel⟩
theorem ok_sides_gap (F : Fun K "sides_gap" "sides_gap" (top 26) f fd) (T : Txt BN mg) (c_look_at_sides : CalX P w K mg base 3 "look_at_sides" ["rows", "sides"] (spLookS K X_NoSide)) (c_row_gap : Cal P w K mg base 3 "row_gap" ["point", "side", "weights"] (spRowGap K)) : FnOk P w K mg base (CXE P w) 4 f fd ["rows", "weights"] (spSGap K X_NoSide) := by
  refine F.okX sc_sides_gap (fun vs H Q E h => ?_) (fun cdv A outer s H vs Q E hr h => ?_)
  · obtain ⟨a, b, as, bs, m, rs, wss, rfl, _⟩ := h
    rfl
  obtain ⟨a, b, as, bs, m, rs, wss, rfl, hA, hR, hO, hB, hT, hW, hE, q⟩ := h
  refine ⟨_, (pss_cons (ps_expr (pe_calG c_look_at_sides (hr.mono (by decide)) rfl passG_out (pa_cons (pv 0) (pa_cons (pe_callB (call_lenK (K := K) rfl) rfl (T.nb "len" (by decide)) (by decide +kernel) (pa_cons (pv 1) pa_nil)) pa_nil))))
      (pss_one (ps_ret (pe_callB (call_minL rfl) rfl (T.nb "min" (by decide)) (by decide +kernel) (pa_cons (pe_comp (sc := defScope (top 26)) (N := ["rows", "weights"]) (NB := ["point", "side", "weights"]) (fr := [none, none, some 1]) rfl (by decide +kernel) (pi_list (pv 0)) (fun _ _ _ _ => (pg_tupK (K := K) (n := 2) rfl rfl (pgs_cons (pg_name (i := 0) (show (["point", "side", "weights"] : List Str).Nodup by decide +kernel) rfl (Or.inl rfl)) (pgs_cons (pg_name (i := 1) (show (["point", "side", "weights"] : List Str).Nodup by decide +kernel) rfl (Or.inl rfl)) pgs_nil)))) (fun _ _ _ _ => .nil) (fun _ _ _ _ => (pe_cal c_row_gap (hr.mono (by decide)) rfl (pa_cons (pv 0) (pa_cons (pv 1) (pa_cons (pv 2) pa_nil)))))) pa_nil))))), ?_⟩
  have hal : as.length = rs.length := Paired.length hR
  have hbl : bs.length = wss.length := Paired.length hT
  refine ⟨_, rfl, _, rfl, b, _, rfl, .inr hB, a, as, rs, bs.length, (by rw [List.length_map]; rfl), hA, hR, hO.sid, fun r hr n => hE r hr (by rw [← hbl]; exact n), fun hin => ?_⟩
  rw [hbl] at hin
  obtain ⟨hne, q⟩ := q hin
  refine ⟨_, rfl, a, rfl, ⟨_, hA⟩, fun D hD => ?_⟩
  refine comp_list_rel (xs := as.map V.ref) (fun _ i y => ∀ r, rs[i]? = some r → y = .int (rgap wss r.1 r.2.toNat)) (fun _ _ _ _ _ h => h) hA (by rw [List.length_map, hal]; exact Nat.le_of_lt (small1000 (by have := hO.len; omega))) hD ?_ ?_
  · rintro i x H1 R hx s1 _ hq
    obtain ⟨A0, hA1, rfl⟩ := of_map hx
    obtain ⟨r, hr1, p, hr2, hr3⟩ := paired_get hR hA1
    have hrm := List.mem_of_getElem? hr1
    refine ⟨A0, _, rfl, s1.seqT hr2, rfl, _, _, rfl, _, _, rfl, rfl, ⟨rfl, ?_⟩, ?_⟩
    · intro k v ek
      match k, ek with
      | 2, ek => exact ek
      | 0, ek => simp [carry] at ek
      | 1, ek => simp [carry] at ek
      | k + 3, ek => simp [carry] at ek
    refine ⟨_, rfl, _, rfl, _, rfl, p, b, bs, r.1, r.2, wss, rfl, s1.seqT hr3, hO.ne hrm, by rw [hO.cnt r hrm]; exact hO.few, hO.low r hrm, s1.seqT hB, hT.same s1, hW, hin r hrm, fun H2 s2 => hq _ H2 s2 fun r2 hr2 => ?_⟩
    rw [hr1] at hr2; cases hr2; rfl
  rintro zs H1 s1 hD1 hz1 hz2
  rw [List.length_map, hal] at hz1
  have ez : zs = (gapsS wss rs).map V.int := by
    unfold gapsS
    rw [List.map_map]
    exact ys_map hz1 fun j y r h1 h2 => hz2 j y h1 r h2
  subst ez
  refine ⟨D, gapsS wss rs, rfl, SqL.of hD1, by unfold gapsS; rw [List.length_map]; exact List.length_pos_iff.mpr hne, fun z hm1 hm2 => ?_⟩
  exact q z H1 s1 hm1 hm2
end
end Mw
namespace Mw
open PySem L2
section
variable {P : Program} {w : World} {K : PySem.W.Frag} {mg : Str → Option Value} {base : Heap} {f : Addr} {fd : FuncData} {X_MendError X_NoSide X_NotParted X_NoFraction X_NoPoint X_NoRow X_NoTable X_NoText X_OneSide X_TooMany X_WrongBook : Addr}
theorem sc_sides_bound : FnScope ["rows", "weights", "gap"] ["rows", "weights"] (defScope (top 27)) := ⟨rfl, rfl, rfl, by decide +kernel, rfl, by decide +kernel, by decide +kernel⟩
theorem ok_sides_bound (F : Fun K "sides_bound" "sides_bound" (top 27) f fd) (T : Txt BN mg) (PR : Prog K mg X_MendError X_NoSide X_NotParted X_NoFraction X_NoPoint X_NoRow X_NoTable X_NoText X_OneSide X_TooMany X_WrongBook) (c_sides_gap : CalX P w K mg base 4 "sides_gap" ["rows", "weights"] (spSGap K X_NoSide)) (c_farthest : Cal P w K mg base 3 "farthest" ["rows"] (spFarP K)) (c_square : Cal P w K mg base 2 "square" ["one"] (spSquare K)) : FnOk P w K mg base (CXE P w) 5 f fd ["rows", "weights"] (spSBnd K X_NotParted X_NoSide) := by
  refine F.okX sc_sides_bound (fun vs H Q E h => ?_) (fun cdv A outer s H vs Q E hr h => ?_)
  · obtain ⟨a, b, as, bs, m, rs, wss, rfl, _⟩ := h
    rfl
  obtain ⟨a, b, as, bs, m, rs, wss, rfl, hA, hR, hO, hB, hT, hW, q0, hE, q⟩ := h
  refine ⟨_, (pss_cons (ps_if (pt_cmpR op_eq (pe_callB (call_lenK (K := K) rfl) rfl (T.nb "len" (by decide)) (by decide +kernel) (pa_cons (pv 0) pa_nil)) pe_int (nomark _)) (pss_one (ps_ret pe_int)) pss_nil)
      (pss_cons (ps_set (i := 2) sc_sides_bound.nd rfl (Or.inl rfl) (pe_calG c_sides_gap (hr.mono (by decide)) rfl passG_out (pa_cons (pv 0) (pa_cons (pv 1) pa_nil))))
      (pss_cons (ps_if (pt_cmpR op_le (pv 2) pe_int (nomark _)) (pss_one (ps_raise rfl PR.x_NotParted.c rfl PR.x_NotParted.g raiseG_out (pa_cons pe_str pa_nil))) pss_nil)
      (pss_one (ps_ret (pe_op op_fdivP (pe_op op_mulB (pe_op op_mulB pe_int (pe_cal c_farthest (hr.mono (by decide)) rfl (pa_cons (pv 0) pa_nil))) (pe_callB (call_sumI rfl) rfl (T.nb "sum" (by decide)) (by decide +kernel) (pa_cons (pe_comp (sc := defScope (top 27)) (N := ["rows", "weights", "gap"]) (NB := ["some"]) (fr := [none]) rfl (by decide +kernel) (pi_tup (pv 1)) (fun _ _ _ _ => (pg_name (i := 0) (show (["some"] : List Str).Nodup by decide +kernel) rfl (Or.inl rfl))) (fun _ _ _ _ => .nil) (fun _ _ _ _ => (pe_cal c_square (hr.mono (by decide)) rfl (pa_cons (pv 0) pa_nil)))) pa_nil))) (pe_op op_mulB (pv 2) (pv 2)))))))), ?_⟩
  have hal : as.length = rs.length := Paired.length hR
  have hbl : bs.length = wss.length := Paired.length hT
  refine ⟨_, rfl, a, _, rfl, .inl hA, rfl, _, rfl, ?_⟩
  refine iteD (fun z => ?_) (fun z => ?_)
  · have z1 : as.length = 0 := by rw [List.length_map] at z; injection z with z2; omega
    exact q0 (List.length_eq_zero_iff.mp (by omega))
  · have hne : rs ≠ [] := fun y => z (by rw [List.length_map, hal, y]; rfl)
    refine ⟨_, rfl, _, rfl, a, b, as, bs, m, rs, wss, rfl, hA, hR, hO, hB, hT, hW, hE, fun hin => ⟨hne, fun g H1 s1 hg1 hg2 => ?_⟩⟩
    obtain ⟨q1, q2⟩ := q hin hne g H1 s1 hg1 hg2
    refine ⟨_, rfl, _, _, rfl, rfl, _, rfl, ?_⟩
    refine iteD (fun z => ?_) (fun z => ?_)
    · exact ⟨(by show 1 ≤ sizeLine; decide), q1 z⟩
    · have z1 : ¬ g ≤ 0 := z
      have hga : g.natAbs ≤ 20000000 := by
        unfold gapsS at hg1
        obtain ⟨r, hr, rfl⟩ := List.mem_map.mp hg1
        have := hin r hr
        exact rgap_abs hW (hO.low r hr) (by have h1 := this.1; have h2 := this.2; omega)
      obtain ⟨f0, f1⟩ := far_abs hO.ok
      rw [far_sides] at f0 f1
      obtain ⟨w0, w1⟩ := sqS_abs hW
      refine ⟨_, rfl, a, as, m, rs, rfl, s1.seq hA, hR.same s1, hO, fun H2 s2 => ?_⟩
      refine ⟨_, _, rfl, rfl, mul64 (by decide) (by decide) (by omega) (by omega), ?_⟩
      have s12 := s1.trans s2
      refine ⟨_, rfl, b, rfl, ⟨_, s12.seqT hB⟩, fun D hD => ?_⟩
      refine comp_tup_rel (xs := bs.map V.ref) (fun _ i y => ∀ ws, wss[i]? = some ws → y = .int (dot ws ws)) (fun _ _ _ _ _ h => h) (s12.seqT hB) (by rw [List.length_map, hbl]; exact Nat.le_of_lt (small1000 (by have := hW.few; omega))) hD ?_ ?_
      · rintro i x H3 R hx s3 _ hq
        obtain ⟨A0, hA1, rfl⟩ := of_map hx
        obtain ⟨ws, hw1, hw2⟩ := paired_get hT hA1
        have hwm := List.mem_of_getElem? hw1
        refine ⟨wk_none (n := 1) rfl, ?_⟩
        refine ⟨_, rfl, A0, true, ws, rfl, (s12.trans s3).seqB (SqT.of hw2), by have := hW.len ws hwm; omega, fun w hw => (small_bits9 (by have := hW.low ws hwm w hw; omega)).mono (by decide), fun H4 s4 => hq _ H4 s4 fun ws2 hw2 => ?_⟩
        rw [hw1] at hw2; cases hw2; rfl
      rintro zs H3 s3 hD3 hz1 hz2
      rw [List.length_map, hbl] at hz1
      have ez : zs = (wss.map fun ws => dot ws ws).map V.int := by
        rw [List.map_map]
        exact ys_map hz1 fun j y r h1 h2 => hz2 j y h1 r h2
      subst ez
      have esum : (wss.map fun ws => dot ws ws).sum = sqS wss := rfl
      refine ⟨D, _, rfl, SqL.of hD3, ?_⟩
      rw [esum]
      have hgg : 0 < g * g := Int.mul_pos (by omega) (by omega)
      have hggb : (g * g).natAbs ≤ 20000000 * 20000000 := by rw [Int.natAbs_mul]; exact Nat.mul_le_mul hga hga
      refine ⟨_, _, rfl, rfl, mul64 (by omega) (by omega) (by omega) (by omega), _, rfl, _, rfl, _, _, rfl, rfl, mul64 (by omega) (by omega) (by omega) (by omega), _, _, rfl, rfl, ⟨hgg, bits_of_abs (by omega) (by decide)⟩, ?_⟩
      exact (q hin hne g _ (s12.trans s3) hg1 hg2).2 (by omega)
end
end Mw
namespace Mw
open PySem L2
section
variable {P : Program} {w : World} {K : PySem.W.Frag} {mg : Str → Option Value} {base : Heap} {f : Addr} {fd : FuncData} {X_MendError X_NoSide X_NotParted X_NoFraction X_NoPoint X_NoRow X_NoTable X_NoText X_OneSide X_TooMany X_WrongBook : Addr}
theorem sc_halving_bound : FnScope ["many", "some", "doublings"] ["many", "some"] (defScope (top 28)) := ⟨rfl, rfl, rfl, by decide +kernel, rfl, by decide +kernel, by decide +kernel⟩
theorem ok_halving_bound (F : Fun K "halving_bound" "halving_bound" (top 28) f fd) (T : Txt BN mg) : FnOk P w K mg base CX0 1 f fd ["many", "some"] spHalv := by
  refine F.ok sc_halving_bound (fun vs H Q E h => ?_) (fun cdv A outer s H vs Q E hr h => ?_)
  · obtain ⟨n, k, rfl, _⟩ := h
    rfl
  obtain ⟨n, k, rfl, h1, h2, h3, q⟩ := h
  refine ⟨_, (pss_cons (ps_set (i := 2) sc_halving_bound.nd rfl (Or.inl rfl) (pe_bm0 PySem.F.plainAttrs_int PyProof.Rows.slot_int_bit_length PyProof.Rows.type_int_bit_length mt_bitlen (pe_op op_sub (pv 0) pe_int)))
      (pss_one (ps_ret (pe_op op_add (pe_op op_mulB (pe_op op_mulB pe_int (pv 1)) (pv 2)) pe_int)))), ?_⟩
  refine ⟨_, rfl, _, _, rfl, rfl, rfl, _, rfl, rfl, ?_⟩
  rw [bits_dbl h1 h2]
  have hd : dblF n ≤ 4 := by unfold dblF; repeat' split
                             all_goals omega
  exact ⟨_, rfl, _, _, rfl, rfl, mul64 (by decide) (by decide) (by omega) (by omega), _, rfl, _, _, rfl, rfl, mul64 (by omega) (by omega) (by omega) (by omega), _, _, rfl, rfl, q⟩
end
end Mw
namespace Mw
open PySem L2
section
variable {P : Program} {w : World} {K : PySem.W.Frag} {mg : Str → Option Value} {base : Heap} {f : Addr} {fd : FuncData} {X_MendError X_NoSide X_NotParted X_NoFraction X_NoPoint X_NoRow X_NoTable X_NoText X_OneSide X_TooMany X_WrongBook : Addr}
theorem sc__law_cell_at : FnScope ["_law_script", "_law_k"] ["_law_script", "_law_k"] (defScope (top 30)) := ⟨rfl, rfl, rfl, by decide +kernel, rfl, by decide +kernel, by decide +kernel⟩
theorem ok__law_cell_at (F : Fun K "_law_cell_at" "_law_cell_at" (top 30) f fd) (T : Txt BN mg) : FnOk P w K mg base CX0 1 f fd ["_law_script", "_law_k"] (spCell K) := by
  refine F.ok sc__law_cell_at (fun vs H Q E h => ?_) (fun cdv A outer s H vs Q E hr h => ?_)
  · obtain ⟨a, ns, k, rfl, _⟩ := h
    rfl
  obtain ⟨a, ns, k, rfl, hA, hk, q⟩ := h
  refine ⟨_, (pss_cons (ps_if (pt_cmpR op_lt (pv 1) (pe_callB (call_lenK (K := K) rfl) rfl (T.nb "len" (by decide)) (by decide +kernel) (pa_cons (pv 0) pa_nil)) (nomark _)) (pss_one (ps_ret (pe_ix (ix_listK (K := K) rfl) (pv 0) (pv 1) (fun _ _ => rfl)))) pss_nil)
      (pss_one (ps_ret pe_int))), ?_⟩
  refine ⟨_, rfl, _, rfl, a, _, rfl, .inl hA, _, _, rfl, rfl, _, rfl, ?_⟩
  refine iteD (fun hlt => ?_) (fun _ => ?_)
  · rw [List.length_map] at hlt
    exact ⟨_, rfl, _, rfl, a, _, _, _, rfl, rfl, hA, at_cell hk hlt, q⟩
  · rename_i hge
    rw [List.length_map] at hge
    rw [cell_out hk hge] at q
    exact q
end
end Mw
namespace Mw
open PySem L2
section
variable {P : Program} {w : World} {K : PySem.W.Frag} {mg : Str → Option Value} {base : Heap} {f : Addr} {fd : FuncData} {X_MendError X_NoSide X_NotParted X_NoFraction X_NoPoint X_NoRow X_NoTable X_NoText X_OneSide X_TooMany X_WrongBook : Addr}
theorem sc__law_mixed : FnScope ["_law_script", "_law_k", "_law_cell", "_law_first"] ["_law_script", "_law_k"] (defScope (top 31)) := ⟨rfl, rfl, rfl, by decide +kernel, rfl, by decide +kernel, by decide +kernel⟩
theorem ok__law_mixed (F : Fun K "_law_mixed" "_law_mixed" (top 31) f fd) (T : Txt BN mg) (c__law_cell_at : Cal P w K mg base 1 "_law_cell_at" ["_law_script", "_law_k"] (spCell K)) : FnOk P w K mg base CX0 2 f fd ["_law_script", "_law_k"] (spMixed2 K) := by
  refine F.ok sc__law_mixed (fun vs H Q E h => ?_) (fun cdv A outer s H vs Q E hr h => ?_)
  · obtain ⟨a, ns, k, rfl, _⟩ := h
    rfl
  obtain ⟨a, ns, k, rfl, hA, h0, h1, q⟩ := h
  refine ⟨_, (pss_cons (ps_set (i := 2) sc__law_mixed.nd rfl (Or.inl rfl) (pe_op op_mod (pe_cal c__law_cell_at (hr.mono (by decide)) rfl (pa_cons (pv 0) (pa_cons (pe_op op_add pe_int (pe_op op_mod (pv 1) pe_int)) pa_nil))) (pe_op op_pow pe_int pe_int)))
      (pss_cons (ps_set (i := 3) sc__law_mixed.nd rfl (Or.inl rfl) (pe_op op_mod (pe_op op_add (pe_op op_mulB (pv 2) pe_int) (pe_op op_mulB (pe_op op_mulB (pe_op op_add (pv 1) pe_int) (pe_op op_add (pv 1) pe_int)) pe_int)) pe_int))
      (pss_one (ps_ret (pe_op op_mod (pe_op op_add (pe_op op_add (pe_op op_mulB (pe_op op_fdivP (pv 3) pe_int) pe_int) (pe_op op_mulB (pv 3) (pe_op op_add (pe_op op_mulB (pv 1) (pv 1)) pe_int))) (pv 1)) pe_int))))), ?_⟩
  refine ⟨_, rfl, _, rfl, _, _, rfl, rfl, (by show (0 : Int) < 62; decide), _, _, rfl, rfl, a, ns, _, rfl, hA, (by have := Int.emod_nonneg k (show (62 : Int) ≠ 0 by decide); show 0 ≤ 1 + k % 62; omega), _, _, rfl, rfl, ⟨by decide, by decide, by decide⟩, _, _, rfl, rfl, (by show (0 : Int) < 10 ^ 20; decide), ?_⟩
  generalize cellF ns (1 + k % 62).toNat = cc
  have hc0 : 0 ≤ cc % 10 ^ Int.toNat 20 := Int.emod_nonneg cc (show (10 ^ 20 : Int) ≠ 0 by decide)
  have hc1 : cc % 10 ^ Int.toNat 20 < 100000000000000000000 := Int.emod_lt_of_pos cc (show (0 : Int) < 100000000000000000000 by decide)
  have hb : CMulB (cc % 10 ^ Int.toNat 20) 48271 := by
    generalize cc % 10 ^ Int.toNat 20 = c at *
    refine ⟨200, by decide, ?_, by show (48271 : Int).natAbs < 2 ^ 200; decide⟩
    show c.natAbs < 2 ^ 200
    have e : (2 : Nat) ^ 200 = 1606938044258990275541962092341162602522202993782792835301376 := by decide
    omega
  have hkk : (k + 3) * (k + 11) ≤ 1000003 * 1000011 := Int.mul_le_mul (by omega) (by omega) (by omega) (by decide)
  have hkk0 : 0 ≤ (k + 3) * (k + 11) := Int.mul_nonneg (by omega) (by omega)
  have hk2 : k * k ≤ 1000000 * 1000000 := Int.mul_le_mul (by omega) (by omega) (by omega) (by decide)
  have hk20 : 0 ≤ k * k := Int.mul_nonneg (by omega) (by omega)
  refine ⟨_, rfl, _, _, rfl, rfl, hb, _, rfl, _, _, rfl, rfl, _, rfl, _, _, rfl, rfl, _, _, rfl, rfl, mul64 (by show _ < k + 3; omega) (by show k + 3 < _; omega) (by show _ < k + 11; omega) (by show k + 11 < _; omega), _, _, rfl, rfl, mul64 (by show _ < (k + 3) * (k + 11); omega) (by show (k + 3) * (k + 11) < _; omega) (by decide) (by decide), _, _, rfl, rfl, _, _, rfl, rfl, (by show (0 : Int) < 2147483647; decide), ?_⟩
  have m0 := Int.emod_nonneg (cc % 10 ^ Int.toNat 20 * 48271 + (k + 3) * (k + 11) * 69621) (show (2147483647 : Int) ≠ 0 by decide)
  have m1 := Int.emod_lt_of_pos (cc % 10 ^ Int.toNat 20 * 48271 + (k + 3) * (k + 11) * 69621) (show (0 : Int) < 2147483647 by decide)
  have m2 : 0 ≤ (cc % 10 ^ Int.toNat 20 * 48271 + (k + 3) * (k + 11) * 69621) % 2147483647 / 977 := Int.ediv_nonneg m0 (by decide)
  have m3 : (cc % 10 ^ Int.toNat 20 * 48271 + (k + 3) * (k + 11) * 69621) % 2147483647 / 977 ≤ _ := Int.ediv_le_self _ m0
  refine ⟨_, rfl, _, _, rfl, rfl, div64 (by decide) (by decide), _, _, rfl, rfl, mul64 (Int.lt_of_lt_of_le (by decide) m2) (Int.lt_of_le_of_lt m3 (Int.lt_trans m1 (by decide))) (by decide) (by decide), _, rfl, _, rfl, _, rfl, _, _, rfl, rfl, mul64 (by omega) (by omega) (by omega) (by omega), _, _, rfl, rfl, _, _, rfl, rfl, mul64 (Int.lt_of_lt_of_le (by decide) m0) (Int.lt_trans m1 (by decide)) (by show _ < k * k + 7; omega) (by show k * k + 7 < _; omega), _, _, rfl, rfl, _, rfl, _, _, rfl, rfl, _, _, rfl, rfl, (by show (0 : Int) < 2147483587; decide), ?_⟩
  exact q _ (Int.emod_nonneg _ (by decide))
end
end Mw
namespace Mw
open PySem L2
section
variable {P : Program} {w : World} {K : PySem.W.Frag} {mg : Str → Option Value} {base : Heap} {f : Addr} {fd : FuncData} {X_MendError X_NoSide X_NotParted X_NoFraction X_NoPoint X_NoRow X_NoTable X_NoText X_OneSide X_TooMany X_WrongBook : Addr}
theorem sc__law_drawn : FnScope ["_law_script", "_law_tops", "_law_found", "_law_cell", "_law_k", "_law_top"] ["_law_script", "_law_tops"] (defScope (top 32)) := ⟨rfl, rfl, rfl, by decide +kernel, rfl, by decide +kernel, by decide +kernel⟩
theorem ok__law_drawn (F : Fun K "_law_drawn" "_law_drawn" (top 32) f fd) (T : Txt BN mg) (c__law_cell_at : Cal P w K mg base 1 "_law_cell_at" ["_law_script", "_law_k"] (spCell K)) (c__law_mixed : Cal P w K mg base 2 "_law_mixed" ["_law_script", "_law_k"] (spMixed2 K)) : FnOk P w K mg base CX0 3 f fd ["_law_script", "_law_tops"] (spDrawn K) := by
  refine F.ok sc__law_drawn (fun vs H Q E h => ?_) (fun cdv A outer s H vs Q E hr h => ?_)
  · obtain ⟨a, b, ns, ts, rfl, _⟩ := h
    rfl
  obtain ⟨a, b, ns, ts, rfl, hA, hB, hT, q⟩ := h
  refine ⟨_, (pss_cons (ps_set (i := 2) sc__law_drawn.nd rfl (Or.inl rfl) (pe_lst pa_nil))
      (pss_cons (ps_set (i := 3) sc__law_drawn.nd rfl (Or.inl rfl) pe_int)
      (pss_cons (ps_for PassesOwn.never rfl (pi_enum rfl (T.nb "enumerate" (by decide)) (pa_cons (pv 1) pa_nil)) (pg_tupK (K := K) (n := 2) rfl rfl (pgs_cons (pg_name (i := 4) sc__law_drawn.nd rfl (Or.inl rfl)) (pgs_cons (pg_name (i := 5) sc__law_drawn.nd rfl (Or.inl rfl)) pgs_nil))) (pss_cons (ps_join (ps_if (pt_cmpR op_eq (pe_op op_mod (pv 4) pe_int) pe_int (nomark _)) (pss_one (ps_set (i := 3) sc__law_drawn.nd rfl (Or.inl rfl) (pe_cal c__law_cell_at (hr.mono (by decide)) rfl (pa_cons (pv 0) (pa_cons (pe_op op_add pe_int (pe_op op_fdivP (pv 4) pe_int)) pa_nil))))) pss_nil))
      (pss_one (ps_if (PW.pt (pw_or (pt_cmpR op_eq (pe_op op_mod (pe_cal c__law_cell_at (hr.mono (by decide)) rfl (pa_cons (pv 0) (pa_cons pe_int pa_nil))) pe_int) pe_int (nomark _)) (pw_or1 (pt_cmpR op_eq (pv 3) pe_int (nomark _))))) (pss_one (ps_expr (pe_bm PySem.F.plainAttrs_list PySem.F.slot_list_append PySem.F.type_list_append mt_append (pv 2) (pa_cons (pe_op op_mod (pe_cal c__law_mixed (hr.mono (by decide)) rfl (pa_cons (pv 0) (pa_cons (pv 4) pa_nil))) (pv 5)) pa_nil)))) (pss_cons (ps_expr (pe_bm PySem.F.plainAttrs_list PySem.F.slot_list_append PySem.F.type_list_append mt_append (pv 2) (pa_cons (pe_op op_mod (pv 3) (pv 5)) pa_nil)))
      (pss_one (ps_set (i := 3) sc__law_drawn.nd rfl (Or.inl rfl) (pe_op op_fdivP (pv 3) (pv 5)))))))))
      (pss_one (ps_ret (pv 2)))))), ?_⟩
  refine ⟨(by show 0 ≤ sizeLine; decide), fun p hp => ?_⟩
  have s1 := Same.new hp (.lst [])
  refine ⟨_, rfl, b, rfl, ⟨_, s1.seq hB⟩, ?_⟩
  refine for_enum (xs := ts.map V.int) (fun i σ H' => ∃ (ds : List Int) (l : Int) (v4 v5 : Option V), σ = [some (.ref a), some (.ref b), some (.ref p), some (.int l), v4, v5] ∧ Same H H' ∧ H' p = some (.lst (ds.map V.int)) ∧ Paired Below ds (ts.take i))
    ⟨[], _, none, none, rfl, s1, upd_same, by rw [List.take_zero]; exact .nil⟩ (fun i σ H' _ ⟨_, _, _, _, _, sm, _⟩ => sm.seq hB) ?_ ?_
  · rintro i x T0 σ H' hx hT0 ⟨ds, l, v4, v5, rfl, sm, hP, hpr⟩
    obtain ⟨t, ht, rfl⟩ := of_map hx
    have hi := (List.getElem?_eq_some_iff.mp ht).1
    have ht0 := hT.pos t (List.mem_of_getElem? ht)
    have ht1 := hT.low t (List.mem_of_getElem? ht)
    have sT := Same.new hT0 (.tup [.int (i : Nat), .int t])
    have sm' := sm.trans sT
    have hil := hT.len
    have hdl : ds.length ≤ i := by rw [Paired.length hpr, List.length_take]; omega
    refine ⟨T0, _, rfl, SqT.of upd_same, rfl, _, _, rfl, _, _, rfl, rfl, ?_⟩
    refine ⟨fun σ H2 => ∃ l' : Int, σ = [some (.ref a), some (.ref b), some (.ref p), some (.int l'), some (.int (i : Nat)), some (.int t)] ∧ H2 = upd H' T0 (.tup [.int (i : Nat), .int t]), ?_, ?_⟩
    · refine ⟨_, rfl, _, _, rfl, rfl, (by show (0 : Int) < 60; decide), rfl, _, rfl, ?_⟩
      refine iteD (fun _ => ?_) (fun _ => ?_)
      · refine ⟨_, rfl, _, rfl, _, _, rfl, rfl, div64 (by decide) (by decide), _, _, rfl, rfl, a, ns, _, rfl, sm'.seq hA, ?_, ?_⟩
        · have : 0 ≤ (i : Int) / 60 := Int.ediv_nonneg (by omega) (by decide)
          show 0 ≤ 1 + (i : Int) / 60
          omega
        · exact ⟨_, rfl, rfl⟩
      · exact ⟨_, rfl, rfl⟩
    rintro σ H2 ⟨l', rfl, rfl⟩
    have add : ∀ (d l2 : Int), 0 ≤ d ∧ d < t → ∃ (ds' : List Int) (l3 : Int) (v4 v5 : Option V), [some (V.ref a), some (.ref b), some (.ref p), some (.int l2), some (.int (i : Nat)), some (.int t)] = [some (.ref a), some (.ref b), some (.ref p), some (.int l3), v4, v5] ∧
        Same H (upd (upd H' T0 (.tup [.int (i : Nat), .int t])) p (.lst (ds.map V.int ++ [.int d]))) ∧ upd (upd H' T0 (.tup [.int (i : Nat), .int t])) p (.lst (ds.map V.int ++ [.int d])) p = some (.lst (ds'.map V.int)) ∧ Paired Below ds' (ts.take (i + 1)) := fun d l2 h => by
      refine ⟨ds ++ [d], l2, _, _, rfl, sm'.upd_old hp, ?_, ?_⟩
      · rw [upd_same, List.map_append]; rfl
      · rw [take_snoc ht]; exact paired_snoc hpr h
    have hsz : (ds.map V.int).length < sizeLine := by rw [List.length_map]; exact small9 (by omega)
    have hP' : upd H' T0 (.tup [.int (i : Nat), .int t]) p = some (.lst (ds.map V.int)) := sT _ _ hP
    have mo : ∀ z : Int, 0 ≤ z % t ∧ z % t < t := fun z => ⟨Int.emod_nonneg _ (by omega), Int.emod_lt_of_pos _ ht0⟩
    refine ⟨_, rfl, a, ns, 0, rfl, sm'.seq hA, (by decide), _, _, rfl, rfl, (by show (0 : Int) < 2; decide), rfl, _, rfl, ?_⟩
    refine iteD (fun _ => ?_) (fun _ => ?_)
    · refine ⟨_, rfl, .inl ⟨rfl, _, SqL.of hP'⟩, _, rfl, _, rfl, a, ns, _, rfl, sm'.seq hA, by omega, by omega, fun z hz => ?_⟩
      refine ⟨_, rfl, _, _, rfl, rfl, ht0, p, _, _, rfl, rfl, hP', hsz, ?_⟩
      exact add _ _ (mo _)
    · refine ⟨_, rfl, rfl, _, rfl, ?_⟩
      refine iteD (fun _ => ?_) (fun _ => ?_)
      · refine ⟨_, rfl, .inl ⟨rfl, _, SqL.of hP'⟩, _, rfl, _, rfl, a, ns, _, rfl, sm'.seq hA, by omega, by omega, fun z hz => ?_⟩
        refine ⟨_, rfl, _, _, rfl, rfl, ht0, p, _, _, rfl, rfl, hP', hsz, ?_⟩
        exact add _ _ (mo _)
      · refine ⟨_, rfl, .inl ⟨rfl, _, SqL.of hP'⟩, _, rfl, _, rfl, _, _, rfl, rfl, ht0, p, _, _, rfl, rfl, hP', hsz, ?_⟩
        refine ⟨_, rfl, _, rfl, _, _, rfl, rfl, div64 ht0 ht1, ?_⟩
        exact add _ _ (mo _)
  · rintro σ H' ⟨ds, l, v4, v5, rfl, sm, hP, hpr⟩
    rw [List.length_map, List.take_length] at hpr
    exact ⟨_, rfl, q p H' ds sm hp hP hpr⟩
end
end Mw
namespace Mw
open PySem L2
section
variable {P : Program} {w : World} {K : PySem.W.Frag} {mg : Str → Option Value} {base : Heap} {f : Addr} {fd : FuncData} {X_MendError X_NoSide X_NotParted X_NoFraction X_NoPoint X_NoRow X_NoTable X_NoText X_OneSide X_TooMany X_WrongBook : Addr}
theorem sc__law_points : FnScope ["_law_drawn_here", "_law_many", "_law_reach", "_law_rows", "_law_points_here", "_law_k"] ["_law_drawn_here", "_law_many", "_law_reach", "_law_rows"] (defScope (top 33)) := ⟨rfl, rfl, rfl, by decide +kernel, rfl, by decide +kernel, by decide +kernel⟩
theorem ok__law_points (F : Fun K "_law_points" "_law_points" (top 33) f fd) (T : Txt BN mg) : FnOk P w K mg base CX0 1 f fd ["_law_drawn_here", "_law_many", "_law_reach", "_law_rows"] (spPoints K) := by
  refine F.ok sc__law_points (fun vs H Q E h => ?_) (fun cdv A outer s H vs Q E hr h => ?_)
  · obtain ⟨a, ds, m, g, n, rfl, _⟩ := h
    rfl
  obtain ⟨a, ds, m, g, n, rfl, hA, hm0, hm1, hn0, hn1, hnm, hd, q⟩ := h
  refine ⟨_, (pss_cons (ps_set (i := 4) sc__law_points.nd rfl (Or.inl rfl) (pe_lst pa_nil))
      (pss_cons (ps_for PassesOwn.never rfl (pi_range1 rfl (T.nb "range" (by decide)) (pa_cons (pv 3) pa_nil)) (pg_name (i := 5) sc__law_points.nd rfl (Or.inl rfl)) (pss_one (ps_expr (pe_bm PySem.F.plainAttrs_list PySem.F.slot_list_append PySem.F.type_list_append mt_append (pv 4) (pa_cons (pe_callTy (call_tupleK (K := K) rfl) rfl (T.nb "tuple" (by decide)) (by decide +kernel) (pa_cons (pe_comp (sc := defScope (top 33)) (N := ["_law_drawn_here", "_law_many", "_law_reach", "_law_rows", "_law_points_here", "_law_k"]) (NB := ["_law_number", "_law_reach"]) (fr := [none, some 2]) rfl (by decide +kernel) (pi_list (pe_slice (sl_listK (K := K) rfl) (pv 0) (po_some (pe_op op_mulB (pv 5) (pv 1))) (po_some (pe_op op_mulB (pe_op op_add (pv 5) pe_int) (pv 1))))) (fun _ _ _ _ => (pg_name (i := 0) (show (["_law_number", "_law_reach"] : List Str).Nodup by decide +kernel) rfl (Or.inl rfl))) (fun _ _ _ _ => .nil) (fun _ _ _ _ => (pe_op op_sub (pv 0) (pv 1)))) pa_nil)) pa_nil)))))
      (pss_one (ps_ret (pv 4))))), ?_⟩
  refine ⟨(by show 0 ≤ sizeLine; decide), fun p hp => ?_⟩
  have s1 := Same.new hp (.lst [])
  refine ⟨_, rfl, n, rfl, by omega, by omega, ?_⟩
  refine for_range (lo := 0) (n := n.toNat) (fun i σ H' => ∃ (as : List Addr) (ps : List (List Int)) (v5 : Option V), σ = [some (.ref a), some (.int m), some (.int g), some (.int n), some (.ref p), v5] ∧ Same H H' ∧ H' p = some (.lst (as.map V.ref)) ∧ PtsAt K H' as ps ∧ ps.length = i ∧
      (∀ x ∈ ps, x.length = m.toNat) ∧ (∀ y ∈ ps, ∀ x ∈ y, -g ≤ x ∧ x ≤ g))
    ⟨[], [], none, rfl, s1, upd_same, .nil, rfl, fun _ h => absurd h (by simp), fun _ h => absurd h (by simp)⟩ ?_ ?_
  · rintro i σ H' hi ⟨as, ps, v5, rfl, sm, hP, hPs, hpn, hc1, hc2⟩
    have hiN : (0 + (i : Int) + 1) ≤ n := by omega
    have hle : (0 + (i : Int) + 1) * m ≤ (ds.length : Int) := Int.le_trans (Int.mul_le_mul_of_nonneg_right hiN (by omega)) hnm
    have hexp : (0 + (i : Int) + 1) * m = (0 + (i : Int)) * m + m := by rw [Int.add_mul, Int.one_mul]
    have hlo : 0 ≤ (0 + (i : Int)) * m := Int.mul_nonneg (by omega) (by omega)
    have hal : as.length = ps.length := Paired.length hPs
    refine ⟨_, rfl, .inl ⟨rfl, _, SqL.of hP⟩, ?_⟩
    refine ⟨_, rfl, _, rfl, _, rfl, _, _, rfl, rfl, mul64 (by omega) (by omega) (by omega) (by omega), _, rfl, _, rfl, _, _, rfl, rfl, _, rfl, _, _, rfl, rfl, mul64 (by show _ < 0 + (i : Int) + 1; omega) (by show 0 + (i : Int) + 1 < _; omega) (by omega) (by omega), _, rfl, a, _, rfl, sm.seq hA, fun ps1 hps => ?_⟩
    rw [cut_map, cutI_in ds hlo (by omega) hle]
    have hcut : ((ds.drop ((0 + (i : Int)) * m).toNat).take ((0 + (i : Int) + 1) * m - (0 + (i : Int)) * m).toNat).length = m.toNat := by
      rw [List.length_take, List.length_drop]; omega
    have hmem : ∀ (j : Nat) x, ((ds.drop ((0 + (i : Int)) * m).toNat).take ((0 + (i : Int) + 1) * m - (0 + (i : Int)) * m).toNat)[j]? = some x → 0 ≤ x ∧ x ≤ 2 * g := fun j x hx => by
      have hj := (List.getElem?_eq_some_iff.mp hx).1
      rw [hcut] at hj
      rw [List.getElem?_take_of_lt (by omega), List.getElem?_drop] at hx
      refine hd _ x ?_ hx
      have h9 : (0 + (i : Int) + 1) * m ≤ n * m := Int.mul_le_mul_of_nonneg_right hiN (by omega)
      omega
    generalize ((ds.drop ((0 + (i : Int)) * m).toNat).take ((0 + (i : Int) + 1) * m - (0 + (i : Int)) * m).toNat) = some1 at *
    have s5 := Same.new hps (.lst (some1.map V.int))
    refine ⟨ps1, rfl, ⟨_, SqL.of upd_same⟩, fun D hDn => ?_⟩
    refine comp_list (xs := some1.map V.int) (fun j zs H3 => ∃ zi : List Int, zs = zi.map V.int ∧ zi.length = j ∧ (∀ x ∈ zi, -g ≤ x ∧ x ≤ g) ∧ Same (upd H' ps1 (.lst (some1.map V.int))) H3 ∧ H3 D = some (.lst zs)) ⟨[], rfl, rfl, fun _ h => absurd h (by simp), Same.new hDn _, upd_same⟩
      (fun j zs H3 hj ⟨zi, e1, e2, _, _, e3⟩ => ⟨e3, by rw [e1, List.length_map]; omega⟩) (fun j zs H3 _ ⟨_, _, _, _, e2, _⟩ => e2.seq (SqL.of upd_same)) (by rw [List.length_map, hcut]; exact Nat.le_of_lt (small9 (by omega))) ?_ ?_
    · rintro j x zs H3 hx ⟨zi, rfl, e2, e4, e5, e6⟩
      obtain ⟨d, hd1, rfl⟩ := of_map hx
      have hd2 := hmem j d hd1
      refine ⟨⟨rfl, ?_⟩, ?_⟩
      · intro k v ek
        match k, ek with
        | 1, ek => exact ek
        | 0, ek => simp [carry] at ek
        | k + 2, ek => simp [carry] at ek
      refine tYes_then ?_
      refine ⟨_, rfl, _, rfl, _, _, rfl, rfl, ?_⟩
      refine ⟨e6, zi ++ [d - g], by rw [List.map_append]; rfl, by rw [List.length_append, e2]; rfl, fun y hy => ?_, e5.upd_old hDn, by rw [upd_same]⟩
      rcases List.mem_append.mp hy with q1 | q1
      · exact e4 y q1
      · rw [List.mem_singleton.mp q1]; omega
    rintro zs H3 ⟨zi, rfl, e2, e4, e5, e6⟩
    rw [List.length_map, hcut] at e2
    refine ⟨D, _, rfl, .inl ⟨SqL.of e6, fun pl hpl => ?_⟩⟩
    have s6 := Same.new hpl (.tup (zi.map V.int))
    have sAll : Same H' (upd H3 pl (.tup (zi.map V.int))) := s5.trans (e5.trans s6)
    refine ⟨p, _, _, rfl, rfl, sAll _ _ hP, by rw [List.length_map, hal]; exact small9 (by omega), ?_⟩
    have hprN : ∀ (b : Addr) (xs : List V), SqT K (upd H3 pl (.tup (zi.map V.int))) b xs → SqT K (upd (upd H3 pl (.tup (zi.map V.int))) p (.lst (as.map V.ref ++ [.ref pl]))) b xs := fun b xs hq => by
      rcases hq with (e | ⟨o, e⟩) | e
      · exact .inl (.inl (by rw [upd_ne (fun z => by rw [z, sAll _ _ hP] at e; cases e)]; exact e))
      · exact .inl (.inr ⟨o, by rw [upd_ne (fun z => by rw [z, sAll _ _ hP] at e; cases e)]; exact e⟩)
      · exact .inr e
    refine ⟨as ++ [pl], ps ++ [zi], _, rfl, (sm.trans sAll).upd_old hp, by rw [upd_same, List.map_append]; rfl, ?_, by rw [List.length_append]; show ps.length + 1 = i + 1; omega, fun r hr1 => ?_, fun r hr1 => ?_⟩
    · refine paired_snoc (Paired.mapP hPs fun b r h1 => hprN _ _ (sAll.seqT h1)) (hprN _ _ (SqT.of upd_same))
    · rcases List.mem_append.mp hr1 with z | z
      · exact hc1 r z
      · rw [List.mem_singleton.mp z]; exact e2
    · rcases List.mem_append.mp hr1 with z | z
      · exact hc2 r z
      · rw [List.mem_singleton.mp z]; exact e4
  · rintro σ H' ⟨as, ps, v5, rfl, sm, hP, hPs, hpn, hc1, hc2⟩
    exact ⟨_, rfl, q p H' as ps sm hp hP hPs hpn hc1 hc2⟩
end
end Mw
namespace Mw
open PySem L2
section
variable {P : Program} {w : World} {K : PySem.W.Frag} {mg : Str → Option Value} {base : Heap} {f : Addr} {fd : FuncData} {X_MendError X_NoSide X_NotParted X_NoFraction X_NoPoint X_NoRow X_NoTable X_NoText X_OneSide X_TooMany X_WrongBook : Addr}
theorem sc__law_product : FnScope ["_law_weights", "_law_point"] ["_law_weights", "_law_point"] (defScope (top 34)) := ⟨rfl, rfl, rfl, by decide +kernel, rfl, by decide +kernel, by decide +kernel⟩
theorem ok__law_product (F : Fun K "_law_product" "_law_product" (top 34) f fd) (T : Txt BN mg) : FnOk P w K mg base CX0 1 f fd ["_law_weights", "_law_point"] (spLProd K) := by
  refine F.ok sc__law_product (fun vs H Q E h => ?_) (fun cdv A outer s H vs Q E hr h => ?_)
  · obtain ⟨a, b, b1, b2, ws, xs, rfl, _⟩ := h
    rfl
  obtain ⟨a, b, b1, b2, ws, xs, rfl, hA, hB, hl, hlw, hw, hx, q⟩ := h
  refine ⟨_, (pss_one (ps_ret (pe_callB (call_sumI rfl) rfl (T.nb "sum" (by decide)) (by decide +kernel) (pa_cons (pe_comp (sc := defScope (top 34)) (N := ["_law_weights", "_law_point"]) (NB := ["_law_weight", "_law_number"]) (fr := [none, none]) rfl (by decide +kernel) (pi_zip rfl (T.nb "zip" (by decide)) (pa_cons (pv 0) (pa_cons (pe_op op_cat (pe_callTy (call_listK (K := K) rfl) rfl (T.nb "list" (by decide)) (by decide +kernel) (pa_cons (pv 1) pa_nil)) (pe_lst (pa_cons pe_int pa_nil))) pa_nil))) (fun _ _ _ _ => (pg_tupK (K := K) (n := 2) rfl rfl (pgs_cons (pg_name (i := 0) (show (["_law_weight", "_law_number"] : List Str).Nodup by decide +kernel) rfl (Or.inl rfl)) (pgs_cons (pg_name (i := 1) (show (["_law_weight", "_law_number"] : List Str).Nodup by decide +kernel) rfl (Or.inl rfl)) pgs_nil)))) (fun _ _ _ _ => .nil) (fun _ _ _ _ => (pe_op op_mulB (pv 0) (pv 1)))) pa_nil)))), ?_⟩
  refine ⟨_, rfl, _, rfl, b, _, rfl, (SqB.or hB), fun l hl0 => ⟨(by show 1 ≤ sizeLine; decide), fun l1 hl1 => ?_⟩⟩
  have s1 := Same.new hl0 (.lst (xs.map V.int))
  have s2 := Same.new hl1 (.lst [.int 1])
  refine ⟨l, l1, _, _, rfl, rfl, s2 _ _ upd_same, upd_same, by rw [List.length_map]; exact Nat.le_of_lt (small1000 (by show xs.length + 1 ≤ 1000; omega)), fun l2 hl2 => ?_⟩
  have s3 := Same.new hl2 (.lst (xs.map V.int ++ [.int 1]))
  have eL : xs.map V.int ++ [.int 1] = (xs ++ [1]).map V.int := by rw [List.map_append]; rfl
  have s4 := s1.trans (s2.trans s3)
  have hx1 := bits_snoc (n := 1000) (by decide) hx
  refine ⟨b1, false, a, l2, rfl, ⟨_, s4.seqB hA⟩, ⟨_, SqL.of upd_same⟩, fun D hD => ?_⟩
  have hDl : l2 ≠ D := ne_of_none upd_same hD
  rw [eL] at hD s3 s4 ⊢
  refine comp_zip (us := ws.map V.int) (vs := (xs ++ [1]).map V.int) (fun i zs H' => zs = (((List.zipWith (· * ·) ws (xs ++ [1])).take i).map V.int) ∧ Same H H' ∧ H' l2 = some (.lst ((xs ++ [1]).map V.int)) ∧ H' D = some (.lst zs)) ⟨by simp, s4.trans (Same.new hD _), by rw [upd_ne (ne_of_none upd_same hD)]; exact upd_same, upd_same⟩
    (fun i zs H' hi ⟨e1, _, _, e3⟩ => ⟨e3, by rw [e1, List.length_map, List.length_take]; omega⟩) (fun i zs H' _ ⟨_, e2, e4, _⟩ => ⟨e2.seqB hA, SqL.of e4⟩) (by rw [List.length_map]; exact Nat.le_of_lt (small1000 hlw)) ?_ ?_
  · rintro i x y T0 zs H' hx0 hy0 hT0 ⟨e1, e2, e4, e3⟩
    obtain ⟨x1, hx1', rfl⟩ := of_map hx0
    obtain ⟨y1, hy1, rfl⟩ := of_map hy0
    have hTD : D ≠ T0 := ne_of_none e3 hT0
    refine ⟨T0, _, rfl, SqT.of upd_same, rfl, _, _, rfl, _, _, rfl, rfl, wk_none (n := 2) rfl, ?_⟩
    refine tYes_then ?_
    refine ⟨_, rfl, _, rfl, _, _, rfl, rfl, ⟨1000, by decide, hw x1 (List.mem_of_getElem? hx1'), hx1 y1 (List.mem_of_getElem? hy1)⟩, by rw [upd_ne hTD]; exact e3, ?_, (e2.trans (Same.new hT0 _)).upd_old (s4.free hD), ?_, upd_same⟩
    · rw [take_snoc (zip_get hx1' hy1), List.map_append, e1]; rfl
    · rw [upd_ne hDl, upd_ne (ne_of_none e4 hT0)]; exact e4
  · rintro zs H' ⟨e1, e2, e4, e3⟩
    refine ⟨D, List.zipWith (· * ·) ws (xs ++ [1]), rfl, .inl (.inl ?_), q H' e2⟩
    rw [e3, e1, List.take_of_length_le (by rw [List.length_zipWith, List.length_map, List.length_map]; exact Nat.le_refl _)]
end
end Mw
namespace Mw
open PySem L2
section
variable {P : Program} {w : World} {K : PySem.W.Frag} {mg : Str → Option Value} {base : Heap} {f : Addr} {fd : FuncData} {X_MendError X_NoSide X_NotParted X_NoFraction X_NoPoint X_NoRow X_NoTable X_NoText X_OneSide X_TooMany X_WrongBook : Addr}
theorem sc__law_is : FnScope ["_law_found", "_law_due"] ["_law_found", "_law_due"] (defScope (top 35)) := ⟨rfl, rfl, rfl, by decide +kernel, rfl, by decide +kernel, by decide +kernel⟩
theorem ok__law_is (F : Fun K "_law_is" "_law_is" (top 35) f fd) (T : Txt BN mg) : FnOk P w K mg base CX0 1 f fd ["_law_found", "_law_due"] spIs := by
  refine F.ok sc__law_is (fun vs H Q E h => ?_) (fun cdv A outer s H vs Q E hr h => ?_)
  · obtain ⟨n, rfl, _⟩ := h
    rfl
  obtain ⟨n, rfl, q⟩ := h
  refine ⟨_, (pss_one (ps_ret (pe_and (pe_callB (call_isiK (K := K) rfl) rfl (T.nb "isinstance" (by decide)) (by decide +kernel) (pa_cons (pv 0) (pa_cons (pe_ty T "int") pa_nil))) (pe_and (pe_not (pe_callB (call_isiK (K := K) rfl) rfl (T.nb "isinstance" (by decide)) (by decide +kernel) (pa_cons (pv 0) (pa_cons (pe_ty T "bool") pa_nil)))) (pe_one (pe_cmpR op_eq (pv 0) (pv 1) (nomark _))))))), ?_⟩
  refine ⟨_, rfl, _, _, _, _, _, rfl, rfl, TyOf.int _, kt_int, _, rfl, ?_⟩
  refine iteT ?_
  refine ⟨_, rfl, _, _, _, _, _, rfl, rfl, TyOf.int _, kt_bool, _, rfl, _, rfl, ?_⟩
  refine iteT ?_
  refine ⟨_, rfl, _, rfl, rfl, ?_⟩
  rw [decide_eq_true rfl]
  exact q
end
end Mw
namespace Mw
open PySem L2
section
variable {P : Program} {w : World} {K : PySem.W.Frag} {mg : Str → Option Value} {base : Heap} {f : Addr} {fd : FuncData} {X_MendError X_NoSide X_NotParted X_NoFraction X_NoPoint X_NoRow X_NoTable X_NoText X_OneSide X_TooMany X_WrongBook : Addr}
theorem sc__law_parted : FnScope ["_law_script", "_law_size", "_law_reach", "_law_many", "_law_order", "_law_tops", "_law_drawn_here", "_law_weights", "_law_points_here", "_law_rows"] ["_law_script", "_law_size", "_law_reach", "_law_many", "_law_order"] (defScope (top 36)) := ⟨rfl, rfl, rfl, by decide +kernel, rfl, by decide +kernel, by decide +kernel⟩
theorem ok__law_parted (F : Fun K "_law_parted" "_law_parted" (top 36) f fd) (T : Txt BN mg) (c__law_drawn : Cal P w K mg base 3 "_law_drawn" ["_law_script", "_law_tops"] (spDrawn K)) (c__law_points : Cal P w K mg base 1 "_law_points" ["_law_drawn_here", "_law_many", "_law_reach", "_law_rows"] (spPoints K)) (c__law_product : Cal P w K mg base 1 "_law_product" ["_law_weights", "_law_point"] (spLProd K)) : FnOk P w K mg base CX0 4 f fd ["_law_script", "_law_size", "_law_reach", "_law_many", "_law_order"] (spParted18 K) := by
  refine F.ok sc__law_parted (fun vs H Q E h => ?_) (fun cdv A outer s H vs Q E hr h => ?_)
  · obtain ⟨a, ns, n, m, od, g, rfl, _⟩ := h
    rfl
  obtain ⟨a, ns, n, m, od, g, rfl, hS, hn0, hn1, hm0, hm1, hg0, hg1, hod, q⟩ := h
  refine ⟨_, (pss_cons (ps_set (i := 5) sc__law_parted.nd rfl (Or.inl rfl) (pe_op op_cat (pe_op op_cat (pe_op op_cat (pe_comp (sc := defScope (top 36)) (N := ["_law_script", "_law_size", "_law_reach", "_law_many", "_law_order", "_law_tops", "_law_drawn_here", "_law_weights", "_law_points_here", "_law_rows"]) (NB := ["_law_k"]) (fr := [none]) rfl (by decide +kernel) (pi_range1 rfl (T.nb "range" (by decide)) (pa_cons (pv 3) pa_nil)) (fun _ _ _ _ => (pg_name (i := 0) (show (["_law_k"] : List Str).Nodup by decide +kernel) rfl (Or.inl rfl))) (fun _ _ _ _ => .nil) (fun _ _ _ _ => pe_int)) (pe_lst (pa_cons pe_int pa_nil))) (pe_comp (sc := defScope (top 36)) (N := ["_law_script", "_law_size", "_law_reach", "_law_many", "_law_order", "_law_tops", "_law_drawn_here", "_law_weights", "_law_points_here", "_law_rows"]) (NB := ["_law_k", "_law_reach"]) (fr := [none, some 2]) rfl (by decide +kernel) (pi_range1 rfl (T.nb "range" (by decide)) (pa_cons (pe_op op_mulB (pv 1) (pv 3)) pa_nil)) (fun _ _ _ _ => (pg_name (i := 0) (show (["_law_k", "_law_reach"] : List Str).Nodup by decide +kernel) rfl (Or.inl rfl))) (fun _ _ _ _ => .nil) (fun _ _ _ _ => (pe_op op_add (pe_op op_mulB pe_int (pv 1)) pe_int)))) (pe_comp (sc := defScope (top 36)) (N := ["_law_script", "_law_size", "_law_reach", "_law_many", "_law_order", "_law_tops", "_law_drawn_here", "_law_weights", "_law_points_here", "_law_rows"]) (NB := ["_law_k", "_law_size"]) (fr := [none, some 1]) rfl (by decide +kernel) (pi_range1 rfl (T.nb "range" (by decide)) (pa_cons (pv 4) pa_nil)) (fun _ _ _ _ => (pg_name (i := 0) (show (["_law_k", "_law_size"] : List Str).Nodup by decide +kernel) rfl (Or.inl rfl))) (fun _ _ _ _ => .nil) (fun _ _ _ _ => (pv 1)))))
      (pss_cons (ps_set (i := 6) sc__law_parted.nd rfl (Or.inl rfl) (pe_cal c__law_drawn (hr.mono (by decide)) rfl (pa_cons (pv 0) (pa_cons (pv 5) pa_nil))))
      (pss_cons (ps_set (i := 7) sc__law_parted.nd rfl (Or.inr rfl) (pe_op op_cat (pe_comp (sc := defScope (top 36)) (N := ["_law_script", "_law_size", "_law_reach", "_law_many", "_law_order", "_law_tops", "_law_drawn_here", "_law_weights", "_law_points_here", "_law_rows"]) (NB := ["_law_number"]) (fr := [none]) rfl (by decide +kernel) (pi_list (pe_slice (sl_listK (K := K) rfl) (pv 6) po_none (po_some (pv 3)))) (fun _ _ _ _ => (pg_name (i := 0) (show (["_law_number"] : List Str).Nodup by decide +kernel) rfl (Or.inl rfl))) (fun _ _ _ _ => .nil) (fun _ _ _ _ => (pe_op op_mulB pe_int (pe_op op_sub (pv 0) pe_int)))) (pe_lst (pa_cons (pe_op op_sub (pe_op op_mulB pe_int (pe_ix (ix_listK (K := K) rfl) (pv 6) (pv 3) (fun _ _ => rfl))) pe_int) pa_nil))))
      (pss_cons (ps_set (i := 8) sc__law_parted.nd rfl (Or.inl rfl) (pe_cal c__law_points (hr.mono (by decide)) rfl (pa_cons (pe_slice (sl_listK (K := K) rfl) (pv 6) (po_some (pe_op op_add (pv 3) pe_int)) po_none) (pa_cons (pv 3) (pa_cons (pv 2) (pa_cons (pv 1) pa_nil))))))
      (pss_cons (ps_comp (i := 9) sc__law_parted.nd rfl rfl (sc := defScope (top 36)) (N := ["_law_script", "_law_size", "_law_reach", "_law_many", "_law_order", "_law_tops", "_law_drawn_here", "_law_weights", "_law_points_here", "_law_rows"]) (NB := ["_law_point", "_law_weights"]) (fr := [none, some 7]) rfl (by decide +kernel) (pi_list (pv 8)) (fun _ _ _ _ => (pg_name (i := 0) (show (["_law_point", "_law_weights"] : List Str).Nodup by decide +kernel) rfl (Or.inl rfl))) (fun _ _ _ _ => .nil) (fun _ _ _ _ => (pe_tup (pa_cons (pv 0) (pa_cons (pe_callTy call_int1 rfl (T.nb "int" (by decide)) (by decide +kernel) (pa_cons (pe_cmpR op_gt (pe_cal c__law_product (hr.mono (by decide)) rfl (pa_cons (pv 1) (pa_cons (pv 0) pa_nil))) pe_int (nomark _)) pa_nil)) pa_nil)))))
      (pss_one (ps_ret (pe_lst (pa_cons (pe_callTy (call_tupleK (K := K) rfl) rfl (T.nb "tuple" (by decide)) (by decide +kernel) (pa_cons (pv 7) pa_nil)) (pa_cons (pv 9) (pa_cons (pe_slice (sl_listK (K := K) rfl) (pv 6) (po_some (pe_op op_sub (pe_callB (call_lenK (K := K) rfl) rfl (T.nb "len" (by decide)) (by decide +kernel) (pa_cons (pv 6) pa_nil)) (pv 4))) po_none) pa_nil))))))))))), ?_⟩
  have hnm : n * m ≤ 40 := Nat.le_trans (Nat.mul_le_mul hn1 hm1) (by decide)
  have hnmI : (n : Int) * m = ((n * m : Nat) : Int) := by rw [Int.natCast_mul]
  refine ⟨_, rfl, (m : Int), rfl, by omega, by omega, fun D1 hD1 => ?_⟩
  refine comp_range_rel (n := m) (fun _ _ y => y = .int 7) (fun _ _ _ _ _ h => h) (Nat.le_of_lt (small1000 (by omega))) hD1 (fun i H1 R hi1 s1 _ hq => ⟨wk_none (n := 1) rfl, ?_⟩) ?_
  · exact hq _ H1 (Same.refl _) rfl
  rintro ys H1 s1 hL1 hy1 hy2
  have ey : ys = List.replicate m (.int 7) := List.eq_replicate_iff.mpr ⟨hy1, fun y hy => by obtain ⟨j, hj⟩ := List.getElem?_of_mem hy; exact hy2 j y hj⟩
  subst ey
  refine ⟨(by show 1 ≤ sizeLine; decide), fun p1 hp1 => ?_⟩
  have s2 := Same.new hp1 (.lst [.int 8])
  refine ⟨D1, p1, _, _, rfl, rfl, s2 _ _ hL1, upd_same, by rw [List.length_replicate]; exact Nat.le_of_lt (small1000 (by show m + 1 ≤ 1000; omega)), fun p2 hp2 => ?_⟩
  have s3 := Same.new hp2 (.lst (List.replicate m (V.int 7) ++ [.int 8]))
  refine ⟨_, rfl, _, rfl, _, _, rfl, rfl, mul64 (by omega) (by omega) (by omega) (by omega), (n : Int) * m, rfl, by omega, by omega, fun D2 hD2 => ?_⟩
  refine comp_range_rel (n := ((n : Int) * m).toNat) (fun _ _ y => y = .int (2 * g + 1)) (fun _ _ _ _ _ h => h) (Nat.le_of_lt (small1000 (by omega))) hD2 (fun i H1 R hi1 s1 _ hq => ⟨wk1 rfl, ?_⟩) ?_
  · exact ⟨_, rfl, _, _, rfl, rfl, mul64 (by decide) (by decide) (by omega) (by omega), _, _, rfl, rfl, hq _ H1 (Same.refl _) rfl⟩
  rintro ys H4 s4 hL2 hy1 hy2
  have ey : ys = List.replicate (n * m) (.int (2 * g + 1)) := List.eq_replicate_iff.mpr ⟨by rw [hy1, hnmI, Int.toNat_natCast], fun y hy => by obtain ⟨j, hj⟩ := List.getElem?_of_mem hy; exact hy2 j y hj⟩
  subst ey
  refine ⟨p2, D2, _, _, rfl, rfl, s4 _ _ upd_same, hL2, by rw [List.length_append, List.length_replicate, List.length_replicate]; exact Nat.le_of_lt (small1000 (by show m + 1 + n * m ≤ 1000; omega)), fun p3 hp3 => ?_⟩
  have s5 := Same.new hp3 (.lst (List.replicate m (V.int 7) ++ [.int 8] ++ List.replicate (n * m) (.int (2 * g + 1))))
  have s05 := s1.trans (s2.trans (s3.trans (s4.trans s5)))
  refine ⟨_, rfl, (od : Int), rfl, by omega, by omega, fun D3 hD3 => ?_⟩
  refine comp_range_rel (n := od) (fun _ _ y => y = .int n) (fun _ _ _ _ _ h => h) (Nat.le_of_lt (small1000 (by omega))) hD3 (fun i H1 R hi1 s1 _ hq => ⟨wk1 rfl, ?_⟩) ?_
  · exact ⟨_, rfl, hq _ H1 (Same.refl _) rfl⟩
  rintro ys H6 s6 hL3 hy1 hy2
  have ey : ys = List.replicate od (.int n) := List.eq_replicate_iff.mpr ⟨hy1, fun y hy => by obtain ⟨j, hj⟩ := List.getElem?_of_mem hy; exact hy2 j y hj⟩
  subst ey
  refine ⟨p3, D3, _, _, rfl, rfl, s6 _ _ upd_same, hL3, by rw [List.length_append, List.length_append, List.length_replicate, List.length_replicate, List.length_replicate]; exact Nat.le_of_lt (small1000 (by show m + 1 + n * m + od ≤ 1000; omega)), fun p4 hp4 => ?_⟩
  have eT : List.replicate m (V.int 7) ++ [V.int 8] ++ List.replicate (n * m) (V.int (2 * g + 1)) ++ List.replicate od (V.int n) = ((List.replicate m 7 ++ [8]) ++ (List.replicate (n * m) (2 * g + 1) ++ List.replicate od (n : Int))).map V.int := by
    simp [List.map_append, List.map_replicate, List.append_assoc]
  have s7 := Same.new hp4 (.lst (List.replicate m (V.int 7) ++ [V.int 8] ++ List.replicate (n * m) (V.int (2 * g + 1)) ++ List.replicate od (V.int n)))
  have s07 := s05.trans (s6.trans s7)
  have hmem : ∀ t ∈ ((List.replicate m 7 ++ [8]) ++ (List.replicate (n * m) (2 * g + 1) ++ List.replicate od (n : Int))), 0 < t ∧ t < 18446744073709551616 := fun t ht => by
    simp only [List.mem_append, List.mem_replicate, List.mem_singleton] at ht
    omega
  refine ⟨_, rfl, _, rfl, a, p4, ns, _, rfl, s07.seq hS, SqL.of (by rw [upd_same, eT]), ⟨by simp; omega, fun t ht => (hmem t ht).1, fun t ht => (hmem t ht).2⟩, fun r H8 ds s8 hr0 hR hpd => ?_⟩
  have s08 := s07.trans s8
  obtain ⟨hpA, hpB⟩ := paired_split hpd
  have hlA : (List.replicate m (7 : Int) ++ [8]).length = m + 1 := by simp
  rw [hlA] at hpA hpB
  obtain ⟨hpA1, hpA2⟩ := paired_split hpA
  obtain ⟨hpB1, hpB2⟩ := paired_split hpB
  rw [List.length_replicate] at hpA1 hpA2 hpB1 hpB2
  have hb1 := below_rep hpA1
  have hb3 := below_rep hpB1
  have hb4 := below_rep hpB2
  have hdl : ds.length = m + 1 + (n * m + od) := by rw [Paired.length hpd]; simp; omega
  -- the weights
  refine ⟨_, rfl, _, rfl, (m : Int), rfl, r, _, rfl, SqL.of hR, fun p5 hp5 => ?_⟩
  rw [cut_map, cutI_to ds (by omega) (by omega), Int.toNat_natCast]
  have htk : (ds.take m).length = m := by rw [List.length_take]; omega
  have hA1 : ∀ d ∈ ds.take m, 0 ≤ d ∧ d < 7 := by
    have e : (ds.take (m + 1)).take m = ds.take m := by rw [List.take_take]; congr 1; omega
    rw [e] at hb1
    exact hb1.2
  generalize hus : ds.take m = us at *
  have s9 := Same.new hp5 (.lst (us.map V.int))
  refine ⟨p5, rfl, ⟨_, SqL.of upd_same⟩, fun D4 hD4 => ?_⟩
  refine comp_list_rel (xs := us.map V.int) (fun _ i y => ∀ d, us[i]? = some d → y = .int (2 * (d - 3))) (fun _ _ _ _ _ h => h) (SqL.of upd_same) (by rw [List.length_map]; exact Nat.le_of_lt (small1000 (by omega))) hD4 ?_ ?_
  · rintro i x H1 R hx s1' _ hq
    obtain ⟨d, hd, rfl⟩ := of_map hx
    have hdb := hA1 d (List.mem_of_getElem? hd)
    refine ⟨wk_none (n := 1) rfl, _, rfl, _, _, rfl, rfl, _, _, rfl, rfl, mul64 (by decide) (by decide) (by show _ < d - 3; omega) (by show d - 3 < _; omega), hq _ H1 (Same.refl _) fun d2 h2 => ?_⟩
    rw [hd] at h2
    cases h2
    rfl
  rintro ys H9 s10 hL4 hy1 hy2
  rw [List.length_map] at hy1
  have ey : ys = (us.map fun d => 2 * (d - 3)).map V.int := by
    rw [List.map_map]
    exact ys_map hy1 fun j y r h1 h2 => hy2 j y h1 r h2
  subst ey
  obtain ⟨d0, hd0, hat0⟩ : ∃ d0, d0 ∈ ds ∧ atI (ds.map V.int) (m : Int) = some (.int d0) ∧ 0 ≤ d0 ∧ d0 < 8 := by
    have hlt : m < ds.length := by omega
    refine ⟨ds[m], List.getElem_mem hlt, atI_nat (by rw [List.getElem?_map, List.getElem?_eq_getElem hlt]; rfl), ?_⟩
    have h2 : (ds.take (m + 1)).drop m = [ds[m]] := by
      rw [List.drop_take]
      have : m + 1 - m = 1 := by omega
      rw [this, List.take_one, List.head?_drop, List.getElem?_eq_getElem hlt]; rfl
    rw [h2] at hpA2
    cases hpA2 with
    | cons r t => exact r
  have s810 := s9.trans s10
  refine ⟨_, rfl, _, rfl, r, _, _, _, rfl, rfl, SqL.of (s810 _ _ hR), hat0.1, _, _, rfl, rfl, mul64 (by decide) (by decide) (by omega) (by omega), _, _, rfl, rfl, (by show 1 ≤ sizeLine; decide), fun p6 hp6 => ?_⟩
  have s11 := Same.new hp6 (.lst [.int (2 * d0 - 7)])
  refine ⟨D4, p6, _, _, rfl, rfl, s11 _ _ hL4, upd_same, by rw [List.length_map, List.length_map]; exact Nat.le_of_lt (small1000 (by show us.length + 1 ≤ 1000; omega)), fun p7 hp7 => ?_⟩
  have eW : (us.map fun d => 2 * (d - 3)).map V.int ++ [V.int (2 * d0 - 7)] = ((us.map fun d => 2 * (d - 3)) ++ [2 * d0 - 7]).map V.int := by
    rw [List.map_append]; rfl
  rw [eW]
  have hwl : ((us.map fun d => 2 * (d - 3)) ++ [2 * d0 - 7]).length = m + 1 := by simp; omega
  have hwb : ∀ w ∈ ((us.map fun d => 2 * (d - 3)) ++ [2 * d0 - 7]), -10 ≤ w ∧ w ≤ 10 := fun w hw => by
    rcases List.mem_append.mp hw with z | z
    · obtain ⟨d, hd, rfl⟩ := List.mem_map.mp z
      have := hA1 d hd
      omega
    · rw [List.mem_singleton.mp z]; omega
  have hodd : ∀ xs : List Int, xs.length = m → dot ((us.map fun d => 2 * (d - 3)) ++ [2 * d0 - 7]) (xs ++ [1]) ≠ 0 := fun xs hx => dot_odd (by rw [List.length_map]; omega) (fun u hu => by obtain ⟨d, _, rfl⟩ := List.mem_map.mp hu; omega) (by omega)
  generalize ((us.map fun d => 2 * (d - 3)) ++ [2 * d0 - 7]) = ws at *
  have s12 := Same.new hp7 (.lst (ws.map V.int))
  have s8c := s810.trans (s11.trans s12)
  -- the points
  refine ⟨_, rfl, _, rfl, _, _, rfl, rfl, (m : Int) + 1, rfl, r, _, rfl, SqL.of (s8c _ _ hR), fun p8 hp8 => ?_⟩
  rw [cut_map, cutI_from ds (by omega) (by omega)]
  have etn : ((m : Int) + 1).toNat = m + 1 := by omega
  rw [etn]
  have s13 := Same.new hp8 (.lst ((ds.drop (m + 1)).map V.int))
  refine ⟨_, rfl, _, rfl, _, rfl, p8, ds.drop (m + 1), m, g, n, rfl, SqL.of upd_same, by omega, by omega, by omega, by omega, by rw [List.length_drop, hnmI]; omega, ?_, fun r2 H14 as ps s14 hr2 hR2 hPs hpl hc1 hc2 => ?_⟩
  · intro j d hj hd
    have hj2 : j < n * m := by rw [hnmI] at hj; omega
    have := hb3.2 d (List.mem_of_getElem? (i := j) (by rw [List.getElem?_take_of_lt hj2]; exact hd))
    omega
  have sc14 := s12.trans (s13.trans s14)
  have hW14 : H14 p7 = some (.lst (ws.map V.int)) := (s13.trans s14) _ _ upd_same
  have hal : as.length = ps.length := Paired.length hPs
  -- the rows
  refine ⟨_, rfl, r2, rfl, ⟨_, SqL.of hR2⟩, fun D5 hD5 => ?_⟩
  refine comp_list_rel (xs := as.map V.ref) (fun H' i y => ∃ t, y = .ref t ∧ t ≠ D5 ∧ ∃ pa xs, as[i]? = some pa ∧ ps[i]? = some xs ∧ H' t = some (.tup [.ref pa, .int (if 0 < dot ws (xs ++ [1]) then 1 else 0)])) ?_ (SqL.of hR2) (by rw [List.length_map]; exact Nat.le_of_lt (small1000 (by omega))) hD5 ?_ ?_
  · rintro H1 H2 i y off ⟨t, e, ne, pa, xs, e1, e2, e3⟩
    exact ⟨t, e, ne, pa, xs, e1, e2, off _ _ ne e3⟩
  · rintro i x H15 R hx s15 hDn hq
    obtain ⟨pa, hpa, rfl⟩ := of_map hx
    obtain ⟨xs, hxs, hPx⟩ := paired_get hPs hpa
    have hxm := List.mem_of_getElem? hxs
    have hxl := hc1 xs hxm
    refine ⟨wk1 rfl, _, rfl, _, rfl, _, rfl, p7, pa, false, true, ws, xs, rfl, SqL.of (s15 _ _ hW14), s15.seqT hPx, by omega, by omega, fun w hw => ?_, fun x hx => ?_, fun H16 s16 => ?_⟩
    · have := hwb w hw
      refine Bits.mono (n := 40) ?_ (by decide)
      show w.natAbs < 2 ^ 40
      have e2 : (2 : Nat) ^ 40 = 1099511627776 := by decide
      omega
    · have := hc2 xs hxm x hx
      exact bits_low (by omega) (by omega) (by decide)
    refine ⟨_, _, rfl, rfl, .inr ⟨_, rfl, (by show 2 ≤ sizeLine; decide), fun pt hpt => ?_⟩⟩
    refine hq _ _ (s16.trans (Same.new hpt _)) ⟨pt, rfl, ?_, pa, xs, hpa, hxs, ?_⟩
    · intro z
      cases e : H15 D5 with
      | none => exact hDn e
      | some o => rw [z, s16 _ _ e] at hpt; cases hpt
    · rw [upd_same]
      by_cases z : 0 < dot ws (xs ++ [1])
      · rw [if_pos z]; simp [z]
      · rw [if_neg z]; simp [z]
  rintro ys H17 s17 hL5 hy1 hy2
  rw [List.length_map] at hy1
  have hS8 : Same H8 H17 := s810.trans (s11.trans (sc14.trans s17))
  have hS0 : Same H H17 := s08.trans hS8
  have hPs17 := hPs.same s17
  obtain ⟨ts, ets, hRows⟩ := rows_of (K := K) (H := H17) (ys := ys) (rs := ps.map fun xs => (xs, if 0 < dot ws (xs ++ [1]) then (1 : Int) else 0)) (by rw [List.length_map]; omega) (fun j y r h1 h2 => by
    obtain ⟨t, e, _, pa, xs, e1, e2, e3⟩ := hy2 j y h1
    rw [List.getElem?_map, e2] at h2
    cases h2
    obtain ⟨xs2, h3, h4⟩ := paired_get hPs17 e1
    rw [e2] at h3
    cases h3
    exact ⟨t, pa, e, SqT.of e3, h4⟩)
  subst ets
  have hR17 : H17 r = some (.lst (ds.map V.int)) := hS8 _ _ hR
  have hW17 : H17 p7 = some (.lst (ws.map V.int)) := s17 _ _ hW14
  refine ⟨_, rfl, p7, _, rfl, .inl ⟨SqL.of hW17, fun t ht => ?_⟩⟩
  have s18 := Same.new ht (.tup (ws.map V.int))
  refine ⟨_, rfl, _, rfl, _, rfl, r, _, rfl, .inl (SqL.of (s18 _ _ hR17)), _, rfl, _, _, rfl, rfl, _, rfl, r, _, rfl, SqL.of (s18 _ _ hR17), fun p9 hp9 => ?_⟩
  rw [List.length_map, cut_map, cutI_from ds (by omega) (by omega)]
  have etn2 : ((ds.length : Int) - od).toNat = m + 1 + n * m := by omega
  rw [etn2]
  refine ⟨(by show 3 ≤ sizeLine; decide), fun p10 hp10 => ?_⟩
  have s19 := Same.new hp9 (.lst ((ds.drop (m + 1 + n * m)).map V.int))
  have s20 := Same.new hp10 (.lst [.ref t, .ref D5, .ref p9])
  have s1920 := s19.trans s20
  have edd : (ds.drop (m + 1)).drop (n * m) = ds.drop (m + 1 + n * m) := by rw [List.drop_drop]
  rw [edd] at hb4
  have hside : ∀ xs : List Int, (if 0 < dot ws (xs ++ [1]) then (1 : Int) else 0) = 0 ∨ (if 0 < dot ws (xs ++ [1]) then (1 : Int) else 0) = 1 := fun xs => by split <;> simp
  refine q p10 t D5 p9 _ ws ts _ (ds.drop (m + 1 + n * m)) (hS0.trans (s18.trans s1920)) (hS0.free (s18.free (s19.free hp10))) upd_same (s1920 _ _ upd_same) ((s18.trans s1920) _ _ hL5) (hRows.same (s18.trans s1920)) ⟨hm0, hm1, by rw [List.length_map]; omega, fun r hr => ?_, fun r hr => ?_, fun r hr => ?_⟩ (by rw [List.length_map]; omega) hwl hwb (fun r hr => ?_) (s20 _ _ upd_same) (fun o ho => hb4.2 o ho) hb4.1
  · obtain ⟨xs, hxs, rfl⟩ := List.mem_map.mp hr
    have := hc1 xs hxs
    show xs.length = m
    omega
  · obtain ⟨xs, hxs, rfl⟩ := List.mem_map.mp hr
    intro x hx
    have := hc2 xs hxs x hx
    omega
  · obtain ⟨xs, hxs, rfl⟩ := List.mem_map.mp hr
    exact hside xs
  · obtain ⟨xs, hxs, rfl⟩ := List.mem_map.mp hr
    have h1 := hodd xs (by have := hc1 xs hxs; omega)
    show 0 < turnF (dot ws (xs ++ [1])) (if 0 < dot ws (xs ++ [1]) then 1 else 0)
    unfold turnF
    by_cases z : 0 < dot ws (xs ++ [1])
    · rw [if_pos z, if_pos rfl]; exact z
    · rw [if_neg z, if_neg (by decide)]; omega
end
end Mw
namespace Mw
open PySem L2
section
variable {P : Program} {w : World} {K : PySem.W.Frag} {mg : Str → Option Value} {base : Heap} {f : Addr} {fd : FuncData} {X_MendError X_NoSide X_NotParted X_NoFraction X_NoPoint X_NoRow X_NoTable X_NoText X_OneSide X_TooMany X_WrongBook : Addr}
theorem sc__law_numbers_of : FnScope ["_law_rows", "_law_weights", "_law_gap", "_law_far"] ["_law_rows", "_law_weights"] (defScope (top 37)) := ⟨rfl, rfl, rfl, by decide +kernel, rfl, by decide +kernel, by decide +kernel⟩
theorem ok__law_numbers_of (F : Fun K "_law_numbers_of" "_law_numbers_of" (top 37) f fd) (T : Txt BN mg) (c__law_product : Cal P w K mg base 1 "_law_product" ["_law_weights", "_law_point"] (spLProd K)) : FnOk P w K mg base CX0 3 f fd ["_law_rows", "_law_weights"] (spNumbers K) := by
  refine F.ok sc__law_numbers_of (fun vs H Q E h => ?_) (fun cdv A outer s H vs Q E hr h => ?_)
  · obtain ⟨a, b, as, m, rs, ws, rfl, _⟩ := h
    rfl
  obtain ⟨a, b, as, m, rs, ws, rfl, hA, hR, hO, hne, hW, hwl, hwb, q⟩ := h
  refine ⟨_, (pss_cons (ps_set (i := 2) sc__law_numbers_of.nd rfl (Or.inl rfl) (pe_callB (call_minL rfl) rfl (T.nb "min" (by decide)) (by decide +kernel) (pa_cons (pe_comp (sc := defScope (top 37)) (N := ["_law_rows", "_law_weights", "_law_gap", "_law_far"]) (NB := ["_law_point", "_law_side", "_law_weights"]) (fr := [none, none, some 1]) rfl (by decide +kernel) (pi_list (pv 0)) (fun _ _ _ _ => (pg_tupK (K := K) (n := 2) rfl rfl (pgs_cons (pg_name (i := 0) (show (["_law_point", "_law_side", "_law_weights"] : List Str).Nodup by decide +kernel) rfl (Or.inl rfl)) (pgs_cons (pg_name (i := 1) (show (["_law_point", "_law_side", "_law_weights"] : List Str).Nodup by decide +kernel) rfl (Or.inl rfl)) pgs_nil)))) (fun _ _ _ _ => .nil) (fun _ _ _ _ => (pe_op op_mulB (pe_op op_sub (pe_op op_mulB pe_int (pv 1)) pe_int) (pe_cal c__law_product (hr.mono (by decide)) rfl (pa_cons (pv 2) (pa_cons (pv 0) pa_nil)))))) pa_nil)))
      (pss_cons (ps_set (i := 3) sc__law_numbers_of.nd rfl (Or.inl rfl) (pe_callB (call_maxL rfl) rfl (T.nb "max" (by decide)) (by decide +kernel) (pa_cons (pe_comp (sc := defScope (top 37)) (N := ["_law_rows", "_law_weights", "_law_gap", "_law_far"]) (NB := ["_law_point", "_law_side"]) (fr := [none, none]) rfl (by decide +kernel) (pi_list (pv 0)) (fun _ _ _ _ => (pg_tupK (K := K) (n := 2) rfl rfl (pgs_cons (pg_name (i := 0) (show (["_law_point", "_law_side"] : List Str).Nodup by decide +kernel) rfl (Or.inl rfl)) (pgs_cons (pg_name (i := 1) (show (["_law_point", "_law_side"] : List Str).Nodup by decide +kernel) rfl (Or.inl rfl)) pgs_nil)))) (fun _ _ _ _ => .nil) (fun _ _ _ _ => (pe_op op_add (pe_callB (call_sumK (K := K) rfl rfl) rfl (T.nb "sum" (by decide)) (by decide +kernel) (pa_cons (pe_compN (NB := ["_law_number"]) (fr := [none]) rfl (of_decide_eq_true (by kernel_rfl)) (pi_tupK (K := K) rfl (pv 0)) (fun _ _ _ _ => (pg_name (i := 0) (show (["_law_number"] : List Str).Nodup by decide +kernel) rfl (Or.inl rfl))) (fun _ _ _ _ => .nil) (fun _ _ _ _ => (pe_op op_mulB (pv 0) (pv 0)))) pa_nil)) pe_int))) pa_nil)))
      (pss_one (ps_ret (pe_lst (pa_cons (pv 2) (pa_cons (pv 3) (pa_cons (pe_callB (call_sumI rfl) rfl (T.nb "sum" (by decide)) (by decide +kernel) (pa_cons (pe_comp (sc := defScope (top 37)) (N := ["_law_rows", "_law_weights", "_law_gap", "_law_far"]) (NB := ["_law_number"]) (fr := [none]) rfl (by decide +kernel) (pi_tup (pv 1)) (fun _ _ _ _ => (pg_name (i := 0) (show (["_law_number"] : List Str).Nodup by decide +kernel) rfl (Or.inl rfl))) (fun _ _ _ _ => .nil) (fun _ _ _ _ => (pe_op op_mulB (pv 0) (pv 0)))) pa_nil)) pa_nil)))))))), ?_⟩
  have hlen : as.length = rs.length := Paired.length hR
  have hl200 := hO.len
  have hpos : 0 < rs.length := List.length_pos_iff.mpr hne
  have hwb1 : ∀ x ∈ ws, Bits 1000 x := fun x hx => (hwb x hx).mono (by decide)
  refine ⟨_, rfl, a, rfl, ⟨_, hA⟩, fun D hD => ?_⟩
  refine comp_list_rel (xs := as.map V.ref) (fun _ i y => ∀ r, rs[i]? = some r → y = .int (turnF (dot ws (r.1 ++ [1])) r.2)) (fun _ _ _ _ _ h => h) hA (by rw [List.length_map]; exact Nat.le_of_lt (small1000 (by omega))) hD ?_ ?_
  · rintro i x H1 R hx s1 hD1 hq
    obtain ⟨y, hy, rfl⟩ := of_map hx
    obtain ⟨r, hr1, p, q1, q2⟩ := paired_get hR hy
    have hm := List.mem_of_getElem? hr1
    have hc := hO.cnt _ hm
    have hf := hO.few
    have hs := hO.sid r hm
    refine ⟨y, _, rfl, s1.seqT q1, rfl, _, _, rfl, _, _, rfl, rfl, ⟨rfl, ?_⟩, ?_⟩
    · intro k v ek
      match k, ek with
      | 2, ek => exact ek
      | 0, ek => simp [carry] at ek
      | 1, ek => simp [carry] at ek
      | k + 3, ek => simp [carry] at ek
    refine ⟨_, rfl, _, _, rfl, rfl, mul64 (by decide) (by decide) (by omega) (by omega), _, _, rfl, rfl, _, rfl, _, rfl, b, p, true, true, ws, r.1, rfl, s1.seqT hW, s1.seqT q2, by omega, hwl, hwb1, hO.bits hm (by decide), fun H2 s2 => ?_⟩
    refine ⟨_, _, rfl, rfl, ?_, ?_⟩
    · refine ⟨1000, by decide, Bits.mono (n := 10) ?_ (by decide), dot_bits hwl hwb (Hnd.low_snoc (hO.low r hm))⟩
      show (2 * r.2 - 1).natAbs < 2 ^ 10
      rcases hs with z | z <;> rw [z] <;> decide
    · refine hq _ H2 s2 fun r2 hr2 => ?_
      rw [hr1] at hr2
      cases hr2
      show V.int ((2 * r.2 - 1) * dot ws (r.1 ++ [1])) = _
      rw [turn_two hs]
  rintro ys H1 s1 hD1 hy1 hy2
  rw [List.length_map, hlen] at hy1
  have ey : ys = (gaps ws rs).map V.int := by
    unfold gaps
    rw [List.map_map]
    exact ys_map hy1 fun j y r h1 h2 => hy2 j y h1 r h2
  subst ey
  refine ⟨D, gaps ws rs, rfl, SqL.of hD1, by rw [gaps_length]; exact hpos, fun z hz1 hz2 => ?_⟩
  refine ⟨_, rfl, a, rfl, ⟨_, s1.seq hA⟩, fun D2 hD2 => ?_⟩
  refine comp_list_rel (xs := as.map V.ref) (fun _ i y => ∀ r, rs[i]? = some r → y = .int (sqP r)) (fun _ _ _ _ _ h => h) (s1.seq hA) (by rw [List.length_map]; exact Nat.le_of_lt (small1000 (by omega))) hD2 ?_ ?_
  · rintro i x H2 R hx s2 hD21 hq
    obtain ⟨y, hy, rfl⟩ := of_map hx
    obtain ⟨r, hr1, p, q1, q2⟩ := paired_get hR hy
    have hm := List.mem_of_getElem? hr1
    have hc := hO.cnt _ hm
    have hf := hO.few
    have s12 := s1.trans s2
    refine ⟨y, _, rfl, s12.seqT q1, rfl, _, _, rfl, _, _, rfl, rfl, wk_none (n := 2) rfl, ?_⟩
    refine ⟨_, rfl, p, rfl, ⟨_, s12.seqT q2⟩, fun D3 hD3 => ?_⟩
    refine comp_tup_rel (xs := r.1.map V.int) (fun _ i y => ∀ x, r.1[i]? = some x → y = .int (x * x)) (fun _ _ _ _ _ h => h) (s12.seqT q2) (by rw [List.length_map]; exact Nat.le_of_lt (small1000 (by omega))) hD3 ?_ ?_
    · rintro j x H3 R2 hx3 s3 _ hq3
      obtain ⟨n, hn, rfl⟩ := of_map hx3
      have hb := hO.low r hm n (List.mem_of_getElem? hn)
      refine ⟨wk_none (n := 1) rfl, ?_⟩
      refine ⟨_, rfl, _, rfl, _, _, rfl, rfl, mul64 (by omega) (by omega) (by omega) (by omega), ?_⟩
      refine hq3 _ H3 (Same.refl _) fun x2 hx2 => ?_
      rw [hn] at hx2
      cases hx2
      rfl
    rintro zs H3 s3 hD3' hz1 hz2
    rw [List.length_map] at hz1
    have ez : zs = (r.1.map fun x => x * x).map V.int := by
      rw [List.map_map]
      exact ys_map hz1 fun j y r h1 h2 => hz2 j y h1 r h2
    subst ez
    refine ⟨D3, _, rfl, SqL.of hD3', _, _, rfl, rfl, ?_⟩
    refine hq _ H3 s3 fun r2 hr2 => ?_
    rw [hr1] at hr2
    cases hr2
    have e1 : (r.1.map fun x => x * x).sum = dot r.1 r.1 := by
      unfold dot
      rw [List.zipWith_self]
    show V.int ((r.1.map fun x => x * x).sum + 1) = _
    unfold sqP
    rw [e1, dot_snoc _ _ _ _ rfl, Int.mul_one]
  rintro zs H2 s2 hD22 hz3 hz4
  rw [List.length_map, hlen] at hz3
  have ez : zs = (rs.map sqP).map V.int := by
    rw [List.map_map]
    exact ys_map hz3 fun j y r h1 h2 => hz4 j y h1 r h2
  subst ez
  refine ⟨D2, rs.map sqP, rfl, SqL.of hD22, by rw [List.length_map]; exact hpos, fun f hf1 hf2 => ?_⟩
  have s12 := s1.trans s2
  refine ⟨_, rfl, _, rfl, _, rfl, b, rfl, ⟨_, s12.seqT hW⟩, fun D3 hD3 => ?_⟩
  refine comp_tup_rel (xs := ws.map V.int) (fun _ i y => ∀ x, ws[i]? = some x → y = .int (x * x)) (fun _ _ _ _ _ h => h) (s12.seqT hW) (by rw [List.length_map]; exact Nat.le_of_lt (small1000 hwl)) hD3 ?_ ?_
  · rintro j x H3 R2 hx3 s3 _ hq3
    obtain ⟨n, hn, rfl⟩ := of_map hx3
    have hb := hwb1 n (List.mem_of_getElem? hn)
    refine ⟨wk_none (n := 1) rfl, ?_⟩
    refine ⟨_, rfl, _, rfl, _, _, rfl, rfl, ⟨1000, by decide, hb, hb⟩, ?_⟩
    refine hq3 _ H3 (Same.refl _) fun x2 hx2 => ?_
    rw [hn] at hx2
    cases hx2
    rfl
  rintro zs H3 s3 hD3' hz1' hz2'
  rw [List.length_map] at hz1'
  have ez : zs = (ws.map fun x => x * x).map V.int := by
    rw [List.map_map]
    exact ys_map hz1' fun j y r h1 h2 => hz2' j y h1 r h2
  subst ez
  have e1 : (ws.map fun x => x * x).sum = dot ws ws := by
    unfold dot
    rw [List.zipWith_self]
  refine ⟨D3, _, rfl, SqL.of hD3', (by show 3 ≤ sizeLine; decide), fun p hp => ?_⟩
  rw [e1]
  exact q p _ z f ((s12.trans s3).trans (Same.new hp _)) (s12.free (s3.free hp)) upd_same hz1 hz2 hf1 hf2
end
end Mw
namespace Mw
open PySem L2
section
variable {P : Program} {w : World} {K : PySem.W.Frag} {mg : Str → Option Value} {base : Heap} {f : Addr} {fd : FuncData} {X_MendError X_NoSide X_NotParted X_NoFraction X_NoPoint X_NoRow X_NoTable X_NoText X_OneSide X_TooMany X_WrongBook : Addr}
theorem sc__law_caught : FnScope ["_law_rows", "_law_weights", "_law_way", "_law_caught_here", "error", "_law_one", "_law_two_here", "_law_three"] ["_law_rows", "_law_weights", "_law_way"] (defScope (top 38)) := ⟨rfl, rfl, rfl, by decide +kernel, rfl, by decide +kernel, by decide +kernel⟩
theorem ok__law_caught (F : Fun K "_law_caught" "_law_caught" (top 38) f fd) (T : Txt BN mg) (PR : Prog K mg X_MendError X_NoSide X_NotParted X_NoFraction X_NoPoint X_NoRow X_NoTable X_NoText X_OneSide X_TooMany X_WrongBook) (c_bound_of : CalX P w K mg base 6 "bound_of" ["rows", "weights", "margin"] (spBnd K X_NotParted)) (c_sides_bound : CalX P w K mg base 5 "sides_bound" ["rows", "weights"] (spSBnd K X_NotParted X_NoSide)) (c_sides_gap : CalX P w K mg base 4 "sides_gap" ["rows", "weights"] (spSGap K X_NoSide)) : FnOk P w K mg base CX0 7 f fd ["_law_rows", "_law_weights", "_law_way"] (spCaught K X_NotParted X_NoSide) := by
  refine F.ok sc__law_caught (fun vs H Q E h => ?_) (fun cdv A outer s H vs Q E hr h => ?_)
  · obtain ⟨a, b, k, np, rfl, _⟩ := h
    rfl
  obtain ⟨a, b, k, np, rfl, hk, q⟩ := h
  refine ⟨_, (pss_cons (ps_set (i := 3) sc__law_caught.nd rfl (Or.inl rfl) pe_non)
      (pss_cons (ps_try (i := 4) rfl rfl rfl PR.x_MendError.g sc__law_caught.nd rfl rfl (fun _ _ => (pss_one (ps_if (pt_cmpR op_eq (pv 2) pe_int (nomark _)) (pss_one (ps_expr (pe_calG c_bound_of (hr.mono (by decide)) rfl tryC_pass (pa_cons (pv 0) (pa_cons (pv 1) (pa_cons pe_int pa_nil)))))) (pss_one (ps_if (pt_cmpR op_eq (pv 2) pe_int (nomark _)) (pss_one (ps_expr (pe_calG c_sides_bound (hr.mono (by decide)) rfl tryC_pass (pa_cons (pv 0) (pa_cons (pv 1) pa_nil))))) (pss_one (ps_expr (pe_calG c_sides_gap (hr.mono (by decide)) rfl tryC_pass (pa_cons (pv 0) (pa_cons (pv 1) pa_nil)))))))))) (fun _ _ => (pss_one (ps_set (i := 3) sc__law_caught.nd rfl (Or.inl rfl) (pv 4)))))
      (pss_cons (ps_set (i := 5) sc__law_caught.nd rfl (Or.inl rfl) (pe_or (pe_callB (call_isiE (K := K) rfl) rfl (T.nb "isinstance" (by decide)) (by decide +kernel) (pa_cons (pv 3) (pa_cons (pe_cls rfl PR.x_NoPoint.g) pa_nil))) (pe_or (pe_callB (call_isiE (K := K) rfl) rfl (T.nb "isinstance" (by decide)) (by decide +kernel) (pa_cons (pv 3) (pa_cons (pe_cls rfl PR.x_NoFraction.g) pa_nil))) (pe_one (pe_callB (call_isiE (K := K) rfl) rfl (T.nb "isinstance" (by decide)) (by decide +kernel) (pa_cons (pv 3) (pa_cons (pe_cls rfl PR.x_NoRow.g) pa_nil)))))))
      (pss_cons (ps_set (i := 6) sc__law_caught.nd rfl (Or.inl rfl) (pe_or (pe_callB (call_isiE (K := K) rfl) rfl (T.nb "isinstance" (by decide)) (by decide +kernel) (pa_cons (pv 3) (pa_cons (pe_cls rfl PR.x_NoTable.g) pa_nil))) (pe_or (pe_callB (call_isiE (K := K) rfl) rfl (T.nb "isinstance" (by decide)) (by decide +kernel) (pa_cons (pv 3) (pa_cons (pe_cls rfl PR.x_NoText.g) pa_nil))) (pe_one (pe_callB (call_isiE (K := K) rfl) rfl (T.nb "isinstance" (by decide)) (by decide +kernel) (pa_cons (pv 3) (pa_cons (pe_cls rfl PR.x_TooMany.g) pa_nil)))))))
      (pss_cons (ps_set (i := 7) sc__law_caught.nd rfl (Or.inl rfl) (pe_or (pe_callB (call_isiE (K := K) rfl) rfl (T.nb "isinstance" (by decide)) (by decide +kernel) (pa_cons (pv 3) (pa_cons (pe_cls rfl PR.x_OneSide.g) pa_nil))) (pe_one (pe_callB (call_isiE (K := K) rfl) rfl (T.nb "isinstance" (by decide)) (by decide +kernel) (pa_cons (pv 3) (pa_cons (pe_cls rfl PR.x_WrongBook.g) pa_nil))))))
      (pss_cons (ps_if (PW.pt (pw_or (pt_not (pt_val (pe_callB (call_isiE (K := K) rfl) rfl (T.nb "isinstance" (by decide)) (by decide +kernel) (pa_cons (pv 3) (pa_cons (pe_ty T "ValueError") pa_nil))))) (pw_or (pt_val (pv 5)) (pw_or (pt_val (pv 6)) (pw_or1 (pt_val (pv 7))))))) (pss_one (ps_ret pe_non)) pss_nil)
      (pss_one (ps_ret (pe_lst (pa_cons (pe_callB (call_isiE (K := K) rfl) rfl (T.nb "isinstance" (by decide)) (by decide +kernel) (pa_cons (pv 3) (pa_cons (pe_cls rfl PR.x_NotParted.g) pa_nil))) (pa_cons (pe_callB (call_isiE (K := K) rfl) rfl (T.nb "isinstance" (by decide)) (by decide +kernel) (pa_cons (pv 3) (pa_cons (pe_cls rfl PR.x_NoSide.g) pa_nil))) pa_nil))))))))))), ?_⟩
  cases np with
  | true =>
    rcases hk with ⟨rfl, hk⟩ | ⟨rfl, hk⟩ | ⟨rfl, hk⟩
    · refine ⟨_, rfl, rfl, _, rfl, ?_⟩
      refine iteD (fun _ => ?_) (fun z => absurd rfl z)
      refine ⟨_, rfl, _, rfl, ?_⟩
      simp only [tCons, tNil, tC, List.append_nil]
      refine hk _ _ fun H1 s1 => ?_
      refine ⟨X_NotParted, rfl, PR.e_NotParted_MendError, fun e he => ?_⟩
      refine ⟨_, rfl, ?_⟩
      have hE : (upd H1 e (excO X_NotParted e)) e = some (excO X_NotParted e) := upd_same
      have sm : Same H (upd H1 e (excO X_NotParted e)) := s1.trans (Same.new he _)
      generalize (upd H1 e (excO X_NotParted e)) = H2 at *
      refine ⟨_, rfl, e, X_NotParted, _, _, _, rfl, rfl, hE, PR.a_NotParted, PR.k_NotParted_NoPoint, _, rfl, ?_⟩
      refine iteF ?_
      refine ⟨_, rfl, e, X_NotParted, _, _, _, rfl, rfl, hE, PR.a_NotParted, PR.k_NotParted_NoFraction, _, rfl, ?_⟩
      refine iteF ?_
      refine ⟨_, rfl, e, X_NotParted, _, _, _, rfl, rfl, hE, PR.a_NotParted, PR.k_NotParted_NoRow, ?_⟩
      refine ⟨_, rfl, e, X_NotParted, _, _, _, rfl, rfl, hE, PR.a_NotParted, PR.k_NotParted_NoTable, _, rfl, ?_⟩
      refine iteF ?_
      refine ⟨_, rfl, e, X_NotParted, _, _, _, rfl, rfl, hE, PR.a_NotParted, PR.k_NotParted_NoText, _, rfl, ?_⟩
      refine iteF ?_
      refine ⟨_, rfl, e, X_NotParted, _, _, _, rfl, rfl, hE, PR.a_NotParted, PR.k_NotParted_TooMany, ?_⟩
      refine ⟨_, rfl, e, X_NotParted, _, _, _, rfl, rfl, hE, PR.a_NotParted, PR.k_NotParted_OneSide, _, rfl, ?_⟩
      refine iteF ?_
      refine ⟨_, rfl, e, X_NotParted, _, _, _, rfl, rfl, hE, PR.a_NotParted, PR.k_NotParted_WrongBook, ?_⟩
      refine ⟨_, rfl, e, X_NotParted, _, _, _, rfl, rfl, hE, PR.a_NotParted, PR.k_NotParted_ValueError, _, rfl, ?_⟩
      refine iteF ?_
      refine ⟨_, rfl, _, rfl, ?_⟩
      refine iteF ?_
      refine ⟨_, rfl, _, rfl, ?_⟩
      refine iteF ?_
      refine ⟨_, rfl, _, rfl, ?_⟩
      refine iteF ?_
      refine ⟨_, rfl, e, X_NotParted, _, _, _, rfl, rfl, hE, PR.a_NotParted, PR.k_NotParted_NotParted, ?_⟩
      refine ⟨_, rfl, e, X_NotParted, _, _, _, rfl, rfl, hE, PR.a_NotParted, PR.k_NotParted_NoSide, (by show 2 ≤ sizeLine; decide), fun p hp => ?_⟩
      exact q p _ (sm.trans (Same.new hp _)) (sm.free hp) upd_same
    · refine ⟨_, rfl, rfl, _, rfl, ?_⟩
      refine iteD (fun z => by injection z with z1; exact absurd z1 (by decide)) (fun _ => ?_)
      refine ⟨_, rfl, rfl, _, rfl, ?_⟩
      refine iteD (fun _ => ?_) (fun z => absurd rfl z)
      refine ⟨_, rfl, _, rfl, ?_⟩
      simp only [tCons, tNil, tC, List.append_nil]
      refine hk _ _ fun H1 s1 => ?_
      refine ⟨X_NotParted, rfl, PR.e_NotParted_MendError, fun e he => ?_⟩
      refine ⟨_, rfl, ?_⟩
      have hE : (upd H1 e (excO X_NotParted e)) e = some (excO X_NotParted e) := upd_same
      have sm : Same H (upd H1 e (excO X_NotParted e)) := s1.trans (Same.new he _)
      generalize (upd H1 e (excO X_NotParted e)) = H2 at *
      refine ⟨_, rfl, e, X_NotParted, _, _, _, rfl, rfl, hE, PR.a_NotParted, PR.k_NotParted_NoPoint, _, rfl, ?_⟩
      refine iteF ?_
      refine ⟨_, rfl, e, X_NotParted, _, _, _, rfl, rfl, hE, PR.a_NotParted, PR.k_NotParted_NoFraction, _, rfl, ?_⟩
      refine iteF ?_
      refine ⟨_, rfl, e, X_NotParted, _, _, _, rfl, rfl, hE, PR.a_NotParted, PR.k_NotParted_NoRow, ?_⟩
      refine ⟨_, rfl, e, X_NotParted, _, _, _, rfl, rfl, hE, PR.a_NotParted, PR.k_NotParted_NoTable, _, rfl, ?_⟩
      refine iteF ?_
      refine ⟨_, rfl, e, X_NotParted, _, _, _, rfl, rfl, hE, PR.a_NotParted, PR.k_NotParted_NoText, _, rfl, ?_⟩
      refine iteF ?_
      refine ⟨_, rfl, e, X_NotParted, _, _, _, rfl, rfl, hE, PR.a_NotParted, PR.k_NotParted_TooMany, ?_⟩
      refine ⟨_, rfl, e, X_NotParted, _, _, _, rfl, rfl, hE, PR.a_NotParted, PR.k_NotParted_OneSide, _, rfl, ?_⟩
      refine iteF ?_
      refine ⟨_, rfl, e, X_NotParted, _, _, _, rfl, rfl, hE, PR.a_NotParted, PR.k_NotParted_WrongBook, ?_⟩
      refine ⟨_, rfl, e, X_NotParted, _, _, _, rfl, rfl, hE, PR.a_NotParted, PR.k_NotParted_ValueError, _, rfl, ?_⟩
      refine iteF ?_
      refine ⟨_, rfl, _, rfl, ?_⟩
      refine iteF ?_
      refine ⟨_, rfl, _, rfl, ?_⟩
      refine iteF ?_
      refine ⟨_, rfl, _, rfl, ?_⟩
      refine iteF ?_
      refine ⟨_, rfl, e, X_NotParted, _, _, _, rfl, rfl, hE, PR.a_NotParted, PR.k_NotParted_NotParted, ?_⟩
      refine ⟨_, rfl, e, X_NotParted, _, _, _, rfl, rfl, hE, PR.a_NotParted, PR.k_NotParted_NoSide, (by show 2 ≤ sizeLine; decide), fun p hp => ?_⟩
      exact q p _ (sm.trans (Same.new hp _)) (sm.free hp) upd_same
    · refine ⟨_, rfl, rfl, _, rfl, ?_⟩
      refine iteD (fun z => by injection z with z1; exact absurd z1 (by decide)) (fun _ => ?_)
      refine ⟨_, rfl, rfl, _, rfl, ?_⟩
      refine iteD (fun z => by injection z with z1; exact absurd z1 (by decide)) (fun _ => ?_)
      refine ⟨_, rfl, _, rfl, ?_⟩
      simp only [tCons, tNil, tC, List.append_nil]
      refine hk _ _ fun H1 s1 => ?_
      refine ⟨X_NotParted, rfl, PR.e_NotParted_MendError, fun e he => ?_⟩
      refine ⟨_, rfl, ?_⟩
      have hE : (upd H1 e (excO X_NotParted e)) e = some (excO X_NotParted e) := upd_same
      have sm : Same H (upd H1 e (excO X_NotParted e)) := s1.trans (Same.new he _)
      generalize (upd H1 e (excO X_NotParted e)) = H2 at *
      refine ⟨_, rfl, e, X_NotParted, _, _, _, rfl, rfl, hE, PR.a_NotParted, PR.k_NotParted_NoPoint, _, rfl, ?_⟩
      refine iteF ?_
      refine ⟨_, rfl, e, X_NotParted, _, _, _, rfl, rfl, hE, PR.a_NotParted, PR.k_NotParted_NoFraction, _, rfl, ?_⟩
      refine iteF ?_
      refine ⟨_, rfl, e, X_NotParted, _, _, _, rfl, rfl, hE, PR.a_NotParted, PR.k_NotParted_NoRow, ?_⟩
      refine ⟨_, rfl, e, X_NotParted, _, _, _, rfl, rfl, hE, PR.a_NotParted, PR.k_NotParted_NoTable, _, rfl, ?_⟩
      refine iteF ?_
      refine ⟨_, rfl, e, X_NotParted, _, _, _, rfl, rfl, hE, PR.a_NotParted, PR.k_NotParted_NoText, _, rfl, ?_⟩
      refine iteF ?_
      refine ⟨_, rfl, e, X_NotParted, _, _, _, rfl, rfl, hE, PR.a_NotParted, PR.k_NotParted_TooMany, ?_⟩
      refine ⟨_, rfl, e, X_NotParted, _, _, _, rfl, rfl, hE, PR.a_NotParted, PR.k_NotParted_OneSide, _, rfl, ?_⟩
      refine iteF ?_
      refine ⟨_, rfl, e, X_NotParted, _, _, _, rfl, rfl, hE, PR.a_NotParted, PR.k_NotParted_WrongBook, ?_⟩
      refine ⟨_, rfl, e, X_NotParted, _, _, _, rfl, rfl, hE, PR.a_NotParted, PR.k_NotParted_ValueError, _, rfl, ?_⟩
      refine iteF ?_
      refine ⟨_, rfl, _, rfl, ?_⟩
      refine iteF ?_
      refine ⟨_, rfl, _, rfl, ?_⟩
      refine iteF ?_
      refine ⟨_, rfl, _, rfl, ?_⟩
      refine iteF ?_
      refine ⟨_, rfl, e, X_NotParted, _, _, _, rfl, rfl, hE, PR.a_NotParted, PR.k_NotParted_NotParted, ?_⟩
      refine ⟨_, rfl, e, X_NotParted, _, _, _, rfl, rfl, hE, PR.a_NotParted, PR.k_NotParted_NoSide, (by show 2 ≤ sizeLine; decide), fun p hp => ?_⟩
      exact q p _ (sm.trans (Same.new hp _)) (sm.free hp) upd_same
  | false =>
    rcases hk with ⟨rfl, hk⟩ | ⟨rfl, hk⟩ | ⟨rfl, hk⟩
    · refine ⟨_, rfl, rfl, _, rfl, ?_⟩
      refine iteD (fun _ => ?_) (fun z => absurd rfl z)
      refine ⟨_, rfl, _, rfl, ?_⟩
      simp only [tCons, tNil, tC, List.append_nil]
      refine hk _ _ fun H1 s1 => ?_
      refine ⟨X_NoSide, rfl, PR.e_NoSide_MendError, fun e he => ?_⟩
      refine ⟨_, rfl, ?_⟩
      have hE : (upd H1 e (excO X_NoSide e)) e = some (excO X_NoSide e) := upd_same
      have sm : Same H (upd H1 e (excO X_NoSide e)) := s1.trans (Same.new he _)
      generalize (upd H1 e (excO X_NoSide e)) = H2 at *
      refine ⟨_, rfl, e, X_NoSide, _, _, _, rfl, rfl, hE, PR.a_NoSide, PR.k_NoSide_NoPoint, _, rfl, ?_⟩
      refine iteF ?_
      refine ⟨_, rfl, e, X_NoSide, _, _, _, rfl, rfl, hE, PR.a_NoSide, PR.k_NoSide_NoFraction, _, rfl, ?_⟩
      refine iteF ?_
      refine ⟨_, rfl, e, X_NoSide, _, _, _, rfl, rfl, hE, PR.a_NoSide, PR.k_NoSide_NoRow, ?_⟩
      refine ⟨_, rfl, e, X_NoSide, _, _, _, rfl, rfl, hE, PR.a_NoSide, PR.k_NoSide_NoTable, _, rfl, ?_⟩
      refine iteF ?_
      refine ⟨_, rfl, e, X_NoSide, _, _, _, rfl, rfl, hE, PR.a_NoSide, PR.k_NoSide_NoText, _, rfl, ?_⟩
      refine iteF ?_
      refine ⟨_, rfl, e, X_NoSide, _, _, _, rfl, rfl, hE, PR.a_NoSide, PR.k_NoSide_TooMany, ?_⟩
      refine ⟨_, rfl, e, X_NoSide, _, _, _, rfl, rfl, hE, PR.a_NoSide, PR.k_NoSide_OneSide, _, rfl, ?_⟩
      refine iteF ?_
      refine ⟨_, rfl, e, X_NoSide, _, _, _, rfl, rfl, hE, PR.a_NoSide, PR.k_NoSide_WrongBook, ?_⟩
      refine ⟨_, rfl, e, X_NoSide, _, _, _, rfl, rfl, hE, PR.a_NoSide, PR.k_NoSide_ValueError, _, rfl, ?_⟩
      refine iteF ?_
      refine ⟨_, rfl, _, rfl, ?_⟩
      refine iteF ?_
      refine ⟨_, rfl, _, rfl, ?_⟩
      refine iteF ?_
      refine ⟨_, rfl, _, rfl, ?_⟩
      refine iteF ?_
      refine ⟨_, rfl, e, X_NoSide, _, _, _, rfl, rfl, hE, PR.a_NoSide, PR.k_NoSide_NotParted, ?_⟩
      refine ⟨_, rfl, e, X_NoSide, _, _, _, rfl, rfl, hE, PR.a_NoSide, PR.k_NoSide_NoSide, (by show 2 ≤ sizeLine; decide), fun p hp => ?_⟩
      exact q p _ (sm.trans (Same.new hp _)) (sm.free hp) upd_same
    · refine ⟨_, rfl, rfl, _, rfl, ?_⟩
      refine iteD (fun z => by injection z with z1; exact absurd z1 (by decide)) (fun _ => ?_)
      refine ⟨_, rfl, rfl, _, rfl, ?_⟩
      refine iteD (fun _ => ?_) (fun z => absurd rfl z)
      refine ⟨_, rfl, _, rfl, ?_⟩
      simp only [tCons, tNil, tC, List.append_nil]
      refine hk _ _ fun H1 s1 => ?_
      refine ⟨X_NoSide, rfl, PR.e_NoSide_MendError, fun e he => ?_⟩
      refine ⟨_, rfl, ?_⟩
      have hE : (upd H1 e (excO X_NoSide e)) e = some (excO X_NoSide e) := upd_same
      have sm : Same H (upd H1 e (excO X_NoSide e)) := s1.trans (Same.new he _)
      generalize (upd H1 e (excO X_NoSide e)) = H2 at *
      refine ⟨_, rfl, e, X_NoSide, _, _, _, rfl, rfl, hE, PR.a_NoSide, PR.k_NoSide_NoPoint, _, rfl, ?_⟩
      refine iteF ?_
      refine ⟨_, rfl, e, X_NoSide, _, _, _, rfl, rfl, hE, PR.a_NoSide, PR.k_NoSide_NoFraction, _, rfl, ?_⟩
      refine iteF ?_
      refine ⟨_, rfl, e, X_NoSide, _, _, _, rfl, rfl, hE, PR.a_NoSide, PR.k_NoSide_NoRow, ?_⟩
      refine ⟨_, rfl, e, X_NoSide, _, _, _, rfl, rfl, hE, PR.a_NoSide, PR.k_NoSide_NoTable, _, rfl, ?_⟩
      refine iteF ?_
      refine ⟨_, rfl, e, X_NoSide, _, _, _, rfl, rfl, hE, PR.a_NoSide, PR.k_NoSide_NoText, _, rfl, ?_⟩
      refine iteF ?_
      refine ⟨_, rfl, e, X_NoSide, _, _, _, rfl, rfl, hE, PR.a_NoSide, PR.k_NoSide_TooMany, ?_⟩
      refine ⟨_, rfl, e, X_NoSide, _, _, _, rfl, rfl, hE, PR.a_NoSide, PR.k_NoSide_OneSide, _, rfl, ?_⟩
      refine iteF ?_
      refine ⟨_, rfl, e, X_NoSide, _, _, _, rfl, rfl, hE, PR.a_NoSide, PR.k_NoSide_WrongBook, ?_⟩
      refine ⟨_, rfl, e, X_NoSide, _, _, _, rfl, rfl, hE, PR.a_NoSide, PR.k_NoSide_ValueError, _, rfl, ?_⟩
      refine iteF ?_
      refine ⟨_, rfl, _, rfl, ?_⟩
      refine iteF ?_
      refine ⟨_, rfl, _, rfl, ?_⟩
      refine iteF ?_
      refine ⟨_, rfl, _, rfl, ?_⟩
      refine iteF ?_
      refine ⟨_, rfl, e, X_NoSide, _, _, _, rfl, rfl, hE, PR.a_NoSide, PR.k_NoSide_NotParted, ?_⟩
      refine ⟨_, rfl, e, X_NoSide, _, _, _, rfl, rfl, hE, PR.a_NoSide, PR.k_NoSide_NoSide, (by show 2 ≤ sizeLine; decide), fun p hp => ?_⟩
      exact q p _ (sm.trans (Same.new hp _)) (sm.free hp) upd_same
    · refine ⟨_, rfl, rfl, _, rfl, ?_⟩
      refine iteD (fun z => by injection z with z1; exact absurd z1 (by decide)) (fun _ => ?_)
      refine ⟨_, rfl, rfl, _, rfl, ?_⟩
      refine iteD (fun z => by injection z with z1; exact absurd z1 (by decide)) (fun _ => ?_)
      refine ⟨_, rfl, _, rfl, ?_⟩
      simp only [tCons, tNil, tC, List.append_nil]
      refine hk _ _ fun H1 s1 => ?_
      refine ⟨X_NoSide, rfl, PR.e_NoSide_MendError, fun e he => ?_⟩
      refine ⟨_, rfl, ?_⟩
      have hE : (upd H1 e (excO X_NoSide e)) e = some (excO X_NoSide e) := upd_same
      have sm : Same H (upd H1 e (excO X_NoSide e)) := s1.trans (Same.new he _)
      generalize (upd H1 e (excO X_NoSide e)) = H2 at *
      refine ⟨_, rfl, e, X_NoSide, _, _, _, rfl, rfl, hE, PR.a_NoSide, PR.k_NoSide_NoPoint, _, rfl, ?_⟩
      refine iteF ?_
      refine ⟨_, rfl, e, X_NoSide, _, _, _, rfl, rfl, hE, PR.a_NoSide, PR.k_NoSide_NoFraction, _, rfl, ?_⟩
      refine iteF ?_
      refine ⟨_, rfl, e, X_NoSide, _, _, _, rfl, rfl, hE, PR.a_NoSide, PR.k_NoSide_NoRow, ?_⟩
      refine ⟨_, rfl, e, X_NoSide, _, _, _, rfl, rfl, hE, PR.a_NoSide, PR.k_NoSide_NoTable, _, rfl, ?_⟩
      refine iteF ?_
      refine ⟨_, rfl, e, X_NoSide, _, _, _, rfl, rfl, hE, PR.a_NoSide, PR.k_NoSide_NoText, _, rfl, ?_⟩
      refine iteF ?_
      refine ⟨_, rfl, e, X_NoSide, _, _, _, rfl, rfl, hE, PR.a_NoSide, PR.k_NoSide_TooMany, ?_⟩
      refine ⟨_, rfl, e, X_NoSide, _, _, _, rfl, rfl, hE, PR.a_NoSide, PR.k_NoSide_OneSide, _, rfl, ?_⟩
      refine iteF ?_
      refine ⟨_, rfl, e, X_NoSide, _, _, _, rfl, rfl, hE, PR.a_NoSide, PR.k_NoSide_WrongBook, ?_⟩
      refine ⟨_, rfl, e, X_NoSide, _, _, _, rfl, rfl, hE, PR.a_NoSide, PR.k_NoSide_ValueError, _, rfl, ?_⟩
      refine iteF ?_
      refine ⟨_, rfl, _, rfl, ?_⟩
      refine iteF ?_
      refine ⟨_, rfl, _, rfl, ?_⟩
      refine iteF ?_
      refine ⟨_, rfl, _, rfl, ?_⟩
      refine iteF ?_
      refine ⟨_, rfl, e, X_NoSide, _, _, _, rfl, rfl, hE, PR.a_NoSide, PR.k_NoSide_NotParted, ?_⟩
      refine ⟨_, rfl, e, X_NoSide, _, _, _, rfl, rfl, hE, PR.a_NoSide, PR.k_NoSide_NoSide, (by show 2 ≤ sizeLine; decide), fun p hp => ?_⟩
      exact q p _ (sm.trans (Same.new hp _)) (sm.free hp) upd_same
end
end Mw
namespace Mw
open PySem L2
section
variable {P : Program} {w : World} {K : PySem.W.Frag} {mg : Str → Option Value} {base : Heap} {f : Addr} {fd : FuncData} {X_MendError X_NoSide X_NotParted X_NoFraction X_NoPoint X_NoRow X_NoTable X_NoText X_OneSide X_TooMany X_WrongBook : Addr}
theorem sc__law_not_parted : FnScope ["_law_rows", "_law_weights", "_law_several_here"] ["_law_rows", "_law_weights", "_law_several_here"] (defScope (top 39)) := ⟨rfl, rfl, rfl, by decide +kernel, rfl, by decide +kernel, by decide +kernel⟩
theorem ok__law_not_parted (F : Fun K "_law_not_parted" "_law_not_parted" (top 39) f fd) (T : Txt BN mg) (c__law_caught : Cal P w K mg base 7 "_law_caught" ["_law_rows", "_law_weights", "_law_way"] (spCaught K X_NotParted X_NoSide)) : FnOk P w K mg base CX0 8 f fd ["_law_rows", "_law_weights", "_law_several_here"] (spNotP K X_NotParted X_NoSide) := by
  refine F.ok sc__law_not_parted (fun vs H Q E h => ?_) (fun cdv A outer s H vs Q E hr h => ?_)
  · obtain ⟨a, b, sv, rfl, _⟩ := h
    rfl
  obtain ⟨a, b, sv, rfl, hk, q⟩ := h
  refine ⟨_, (pss_one (ps_ret (pe_cmpR (op_eqDeep 0 (K := K) rfl hr.units8 (by decide)) (pe_cal c__law_caught (hr.mono (by decide)) rfl (pa_cons (pv 0) (pa_cons (pv 1) (pa_cons (pe_callTy call_int1 rfl (T.nb "int" (by decide)) (by decide +kernel) (pa_cons (pv 2) pa_nil)) pa_nil)))) (pe_lst (pa_cons pe_bl (pa_cons pe_bl pa_nil))) (nomark _)))), ?_⟩
  refine ⟨_, rfl, _, rfl, _, rfl, .inr ⟨sv, rfl, ?_⟩⟩
  refine ⟨a, b, _, true, rfl, ?_, fun r H1 s1 hr0 hR => ?_⟩
  · rcases hk with ⟨rfl, hk⟩ | ⟨rfl, hk⟩
    · exact .inl ⟨rfl, fun Q' E' h => hk Q' E' h⟩
    · exact .inr (.inl ⟨rfl, fun Q' E' h => hk Q' E' h⟩)
  · refine ⟨(by show 2 ≤ sizeLine; decide), fun p hp => ?_⟩
    have s2 := Same.new hp (.lst [.bl true, .bl false])
    exact ⟨⟨r, p, _, _, rfl, rfl, .inl ⟨SqL.of (s2 _ _ hR), SqL.of upd_same⟩, .cons ⟨rfl, rfl⟩ (.cons ⟨rfl, rfl⟩ .nil)⟩, q _ (s1.trans s2)⟩
end
end Mw
namespace Mw
open PySem L2
section
variable {P : Program} {w : World} {K : PySem.W.Frag} {mg : Str → Option Value} {base : Heap} {f : Addr} {fd : FuncData} {X_MendError X_NoSide X_NotParted X_NoFraction X_NoPoint X_NoRow X_NoTable X_NoText X_OneSide X_TooMany X_WrongBook : Addr}
theorem sc__law_no_side : FnScope ["_law_rows", "_law_weights", "_law_head", "_law_at", "_law_odd", "_law_bad"] ["_law_rows", "_law_weights", "_law_head"] (defScope (top 40)) := ⟨rfl, rfl, rfl, by decide +kernel, rfl, by decide +kernel, by decide +kernel⟩
theorem ok__law_no_side (F : Fun K "_law_no_side" "_law_no_side" (top 40) f fd) (T : Txt BN mg) (c__law_caught : Cal P w K mg base 7 "_law_caught" ["_law_rows", "_law_weights", "_law_way"] (spCaught K X_NotParted X_NoSide)) : FnOk P w K mg base CX0 8 f fd ["_law_rows", "_law_weights", "_law_head"] (spNoSide K) := by
  refine F.ok sc__law_no_side (fun vs H Q E h => ?_) (fun cdv A outer s H vs Q E hr h => ?_)
  · obtain ⟨a, b, as, bs, m, rs, wss, hd, rfl, _⟩ := h
    rfl
  obtain ⟨a, b, as, bs, m, rs, wss, hd, rfl, hA, hR, hO, hr90, hB, hT, hW, hwl, hd0, hd1, q⟩ := h
  refine ⟨_, (pss_cons (ps_join (ps_set (i := 3) sc__law_no_side.nd rfl (Or.inl rfl) (pe_op op_mod (pe_op op_fdivP (pv 2) pe_int) (pe_op op_add (pe_callB (call_lenK (K := K) rfl) rfl (T.nb "len" (by decide)) (by decide +kernel) (pa_cons (pv 0) pa_nil)) pe_int))))
      (pss_cons (ps_join (ps_set (i := 4) sc__law_no_side.nd rfl (Or.inl rfl) (pe_ix (ix_listK (K := K) rfl) (pe_lst (pa_cons (pe_callB (call_lenK (K := K) rfl) rfl (T.nb "len" (by decide)) (by decide +kernel) (pa_cons (pv 1) pa_nil)) (pa_cons (pe_un un_neg pe_int) (pa_cons (pe_op op_add (pe_callB (call_lenK (K := K) rfl) rfl (T.nb "len" (by decide)) (by decide +kernel) (pa_cons (pv 1) pa_nil)) (pe_op op_fdivP (pv 2) pe_int)) pa_nil)))) (pe_op op_mod (pe_op op_fdivP (pv 2) pe_int) pe_int) (fun _ _ => rfl))))
      (pss_cons (ps_join (ps_set (i := 5) sc__law_no_side.nd rfl (Or.inl rfl) (pe_op op_cat (pe_op op_cat (pe_slice (sl_listK (K := K) rfl) (pv 0) po_none (po_some (pv 3))) (pe_lst (pa_cons (pe_tup (pa_cons (pe_op (op_repOne (K := K) rfl) (pe_tup (pa_cons pe_int pa_nil)) (pe_op op_sub (pe_callB (call_lenK (K := K) rfl) rfl (T.nb "len" (by decide)) (by decide +kernel) (pa_cons (pe_ix (ix_tupK (K := K) rfl) (pv 1) pe_int (fun _ _ => rfl)) pa_nil)) pe_int)) (pa_cons (pv 4) pa_nil))) pa_nil))) (pe_slice (sl_listK (K := K) rfl) (pv 0) (po_some (pv 3)) po_none))))
      (pss_one (ps_ret (pe_and (pe_cmpR (op_eqDeep 0 (K := K) rfl hr.units8 (by decide)) (pe_cal c__law_caught (hr.mono (by decide)) rfl (pa_cons (pv 5) (pa_cons (pv 1) (pa_cons pe_int pa_nil)))) (pe_lst (pa_cons pe_bl (pa_cons pe_bl pa_nil))) (nomark _)) (pe_one (pe_cmpR (op_eqDeep 0 (K := K) rfl hr.units8 (by decide)) (pe_cal c__law_caught (hr.mono (by decide)) rfl (pa_cons (pv 5) (pa_cons (pv 1) (pa_cons pe_int pa_nil)))) (pe_lst (pa_cons pe_bl (pa_cons pe_bl pa_nil))) (nomark _))))))))), ?_⟩
  have hal : as.length = rs.length := Paired.length hR
  have hbl : bs.length = wss.length := Paired.length hT
  have hw5 := hW.few
  have hw2 := hW.two
  refine ⟨fun σ H' => ∃ k : Nat, k ≤ rs.length ∧ σ = [some (.ref a), some (.ref b), some (.int hd), some (.int k), none, none] ∧ H' = H, ?_, ?_⟩
  · refine ⟨_, rfl, _, _, rfl, rfl, div64 (by decide) (by decide), _, rfl, a, _, rfl, .inl hA, _, _, rfl, rfl, _, _, rfl, rfl, (by show (0 : Int) < ((as.map V.ref).length : Int) + 1; omega), ?_⟩
    have h0 := Int.emod_nonneg (hd / 24) (b := (rs.length : Int) + 1) (by omega)
    have h1 := Int.emod_lt_of_pos (hd / 24) (b := (rs.length : Int) + 1) (by omega)
    refine ⟨(hd / 24 % ((rs.length : Int) + 1)).toNat, by omega, ?_, rfl⟩
    show [some (V.ref a), some (.ref b), some (.int hd), some (.int (hd / 24 % (((as.map V.ref).length : Int) + 1))), none, none] = _
    rw [List.length_map, hal, Int.toNat_of_nonneg h0]
  rintro σ H0 ⟨k, hk, rfl, rfl⟩
  refine ⟨fun σ H' => ∃ od : Int, ¬ InS wss.length od ∧ Bits 1900 od ∧ σ = [some (.ref a), some (.ref b), some (.int hd), some (.int k), some (.int od), none] ∧ Same H0 H', ?_, ?_⟩
  · refine ⟨_, rfl, b, _, rfl, .inr hB, _, rfl, _, rfl, b, _, rfl, .inr hB, _, rfl, _, _, rfl, rfl, div64 (by decide) (by decide), _, _, rfl, rfl, (by show 3 ≤ sizeLine; decide), fun p1 hp1 => ?_⟩
    obtain ⟨od, ho1, ho2, hat⟩ : ∃ od : Int, ¬ InS wss.length od ∧ Bits 1900 od ∧ atI [V.int ((bs.map V.ref).length : Int), .int (-1), .int (((bs.map V.ref).length : Int) + hd / 240)] (hd / 72 % 3) = some (.int od) := by
      rw [List.length_map, hbl]
      have h3 : hd / 72 % 3 = 0 ∨ hd / 72 % 3 = 1 ∨ hd / 72 % 3 = 2 := by omega
      rcases h3 with e | e | e
      · exact ⟨(wss.length : Int), fun z => by have := z.2; omega, (small_bits9 (by omega)).mono (by decide), by rw [e]; rfl⟩
      · exact ⟨-1, notIn_neg, (small_bits9 (by decide)).mono (by decide), by rw [e]; rfl⟩
      · exact ⟨(wss.length : Int) + hd / 240, fun z => by have := z.2; omega, bits_of_abs (by omega) (by decide), by rw [e]; rfl⟩
    refine ⟨_, rfl, _, _, rfl, rfl, div64 (by decide) (by decide), _, _, rfl, rfl, (by show (0 : Int) < 3; decide), p1, _, _, _, rfl, rfl, SqL.of upd_same, hat, ?_⟩
    exact ⟨od, ho1, ho2, rfl, Same.new hp1 _⟩
  rintro σ H1 ⟨od, ho1, ho2, rfl, s1⟩
  refine ⟨fun σ H' => ∃ (c : Addr) (as' : List Addr) (rs' : List (List Int × Int)), σ = [some (.ref a), some (.ref b), some (.int hd), some (.int k), some (.int od), some (.ref c)] ∧ Same H0 H' ∧ H' c = some (.lst (as'.map V.ref)) ∧ RowsAt K H' as' rs' ∧ RowsP m rs' ∧ ∃ r ∈ rs', ¬ InS wss.length r.2, ?_, ?_⟩
  · have hb0 : ∃ b0 ws0, bs[0]? = some b0 ∧ wss[0]? = some ws0 := ⟨bs[0], wss[0], List.getElem?_eq_getElem (by omega), List.getElem?_eq_getElem (by omega)⟩
    obtain ⟨b0, ws0, hb0, hws0⟩ := hb0
    obtain ⟨ws1, hws1, hT0⟩ := paired_get hT hb0
    rw [hws0] at hws1
    cases hws1
    have hlw : ws0.length = m + 1 := hwl ws0 (List.mem_of_getElem? hws0)
    have hpos := hO.pos
    have hfew := hO.few
    refine ⟨_, rfl, _, rfl, (k : Int), rfl, a, _, rfl, s1.seq hA, fun p1 hp1 => ?_⟩
    rw [cutL_map, cutL_to as (by omega) (by omega), Int.toNat_natCast]
    have s2 := Same.new hp1 (.lst ((as.take k).map V.ref))
    have hP1 : upd H1 p1 (.lst ((as.take k).map V.ref)) p1 = some (.lst ((as.take k).map V.ref)) := upd_same
    generalize upd H1 p1 (.lst ((as.take k).map V.ref)) = H2 at *
    refine ⟨(by show 1 ≤ sizeLine; decide), fun t0 ht0 => ?_⟩
    have s3 := Same.new ht0 (.tup [.int 0])
    have hT3 : upd H2 t0 (.tup [.int 0]) t0 = some (.tup [.int 0]) := upd_same
    generalize upd H2 t0 (.tup [.int 0]) = H3 at *
    have s13 := s1.trans (s2.trans s3)
    refine ⟨_, rfl, b, _, _, _, rfl, rfl, s13.seqT hB, at_k (k := 0) (v := .ref b0) (by rw [List.getElem?_map, hb0]; rfl) rfl, b0, _, rfl, .inr (s13.seqT (SqT.of hT0)), _, _, rfl, rfl, t0, (m : Int), .int 0, rfl, ?_, SqT.of hT3, by omega, by omega, fun p H4 s4 hp => ?_⟩
    · show V.int (((ws0.map V.int).length : Int) - 1) = .int m
      rw [List.length_map, hlw]
      congr 1
      omega
    rw [Int.toNat_natCast] at hp
    have ez : List.replicate m (V.int 0) = (List.replicate m (0 : Int)).map V.int := by rw [List.map_replicate]
    rw [ez] at hp
    refine ⟨_, rfl, (by show 2 ≤ sizeLine; decide), fun T0 hT0' => ?_⟩
    have s5 := Same.new hT0' (.tup [.ref p, .int od])
    have hT5 : upd H4 T0 (.tup [.ref p, .int od]) T0 = some (.tup [.ref p, .int od]) := upd_same
    generalize upd H4 T0 (.tup [.ref p, .int od]) = H5 at *
    refine ⟨(by show 1 ≤ sizeLine; decide), fun L0 hL0 => ?_⟩
    have s6 := Same.new hL0 (.lst [.ref T0])
    have s26 := s3.trans (s4.trans (s5.trans s6))
    refine ⟨p1, L0, _, _, rfl, rfl, s26 _ _ hP1, upd_same, by rw [List.length_map, List.length_take]; exact Nat.le_of_lt (small1000 (by show min k as.length + 1 ≤ 1000; omega)), fun p2 hp2 => ?_⟩
    have s7 := Same.new hp2 (.lst ((as.take k).map V.ref ++ [.ref T0]))
    have s17 := s1.trans (s2.trans (s26.trans s7))
    refine ⟨_, rfl, _, rfl, (k : Int), rfl, a, _, rfl, s17.seq hA, fun p3 hp3 => ?_⟩
    rw [cutL_map, cutL_from as (by omega) (by omega), Int.toNat_natCast]
    have s8 := Same.new hp3 (.lst ((as.drop k).map V.ref))
    refine ⟨p2, p3, _, _, rfl, rfl, s8 _ _ upd_same, upd_same, by rw [List.length_append, List.length_map, List.length_map, List.length_take, List.length_drop]; exact Nat.le_of_lt (small1000 (by show min k as.length + 1 + (as.length - k) ≤ 1000; omega)), fun p4 hp4 => ?_⟩
    have s9 := Same.new hp4 (.lst ((as.take k).map V.ref ++ [.ref T0] ++ (as.drop k).map V.ref))
    have s69 := s6.trans (s7.trans (s8.trans s9))
    have sAll := s17.trans (s8.trans s9)
    refine ⟨p4, as.take k ++ [T0] ++ as.drop k, rs.take k ++ [(List.replicate m 0, od)] ++ rs.drop k, rfl, sAll, by rw [upd_same, List.map_append, List.map_append]; rfl, rows_mid k k (hR.same sAll) (s69.seqT (SqT.of hT5)) ((s5.trans s69).seqT hp), hO.mid hr90 (by simp) (fun x hx => ?_) ho2, (List.replicate m 0, od), by simp, ho1⟩
    have := (List.mem_replicate.mp hx).2
    subst this
    decide
  rintro σ H2 ⟨c, as', rs', rfl, s2, hC, hR', hO', r, hr, hbad⟩
  have hne : rs' ≠ [] := fun z => by rw [z] at hr; simp at hr
  refine ⟨_, rfl, _, rfl, ⟨c, b, 1, false, rfl, .inr (.inl ⟨rfl, fun Q' E' h => ⟨c, b, as', bs, m, rs', wss, rfl, SqL.of hC, hR', hO', s2.seqT hB, hT.same s2, hW, fun z => absurd z hne, fun _ _ _ => h H2 (Same.refl _), fun hin => absurd (hin r hr) hbad⟩⟩), fun r1 H3 s3 hr0 hR3 => ?_⟩⟩
  refine ⟨(by show 2 ≤ sizeLine; decide), fun p hp => ?_⟩
  have s4 := Same.new hp (.lst [.bl false, .bl true])
  refine ⟨⟨r1, p, _, _, rfl, rfl, .inl ⟨SqL.of (s4 _ _ hR3), SqL.of upd_same⟩, .cons ⟨rfl, rfl⟩ (.cons ⟨rfl, rfl⟩ .nil)⟩, _, rfl, ?_⟩
  refine iteT ?_
  have s34 := s3.trans s4
  generalize upd H3 p (.lst [.bl false, .bl true]) = H4 at *
  refine ⟨_, rfl, _, rfl, ⟨c, b, 2, false, rfl, .inr (.inr ⟨rfl, fun Q' E' h => ⟨c, b, as', bs, m, rs', wss, rfl, SqL.of (s34 _ _ hC), hR'.same s34, hO', (s2.trans s34).seqT hB, hT.same (s2.trans s34), hW, fun _ _ _ => h H4 (Same.refl _), fun hin => absurd (hin r hr) hbad⟩⟩), fun r2 H5 s5 hr0 hR5 => ?_⟩⟩
  refine ⟨(by show 2 ≤ sizeLine; decide), fun p2 hp2 => ?_⟩
  have s6 := Same.new hp2 (.lst [.bl false, .bl true])
  exact ⟨⟨r2, p2, _, _, rfl, rfl, .inl ⟨SqL.of (s6 _ _ hR5), SqL.of upd_same⟩, .cons ⟨rfl, rfl⟩ (.cons ⟨rfl, rfl⟩ .nil)⟩, q _ (s2.trans (s34.trans (s5.trans s6)))⟩
end
end Mw
namespace Mw
open PySem L2
section
variable {P : Program} {w : World} {K : PySem.W.Frag} {mg : Str → Option Value} {base : Heap} {f : Addr} {fd : FuncData} {X_MendError X_NoSide X_NotParted X_NoFraction X_NoPoint X_NoRow X_NoTable X_NoText X_OneSide X_TooMany X_WrongBook : Addr}
theorem sc__law_two : FnScope ["_law_rows", "_law_weights", "_law_head", "_law_gap", "_law_far", "_law_square_of", "_law_room", "_law_due", "_law_at", "_law_flat", "_law_bad"] ["_law_rows", "_law_weights", "_law_head"] (defScope (top 41)) := ⟨rfl, rfl, rfl, by decide +kernel, rfl, by decide +kernel, by decide +kernel⟩
theorem ok__law_two (F : Fun K "_law_two" "_law_two" (top 41) f fd) (T : Txt BN mg) (c__law_numbers_of : Cal P w K mg base 3 "_law_numbers_of" ["_law_rows", "_law_weights"] (spNumbers K)) (c__law_is : Cal P w K mg base 1 "_law_is" ["_law_found", "_law_due"] spIs) (c__law_product : Cal P w K mg base 1 "_law_product" ["_law_weights", "_law_point"] (spLProd K)) (c_bound_of : CalX P w K mg base 6 "bound_of" ["rows", "weights", "margin"] (spBnd K X_NotParted)) (c_bound_of_D : CalD P w K mg base 6 "bound_of" ["rows", "weights", "margin"] (spBnd K X_NotParted) (.int 0)) (c_bound_of_K : CalK P w K mg base 6 "bound_of" ["rows", "weights", "margin"] "margin" (spBnd K X_NotParted)) (c__law_not_parted : Cal P w K mg base 8 "_law_not_parted" ["_law_rows", "_law_weights", "_law_several_here"] (spNotP K X_NotParted X_NoSide)) : FnOk P w K mg base CX0 9 f fd ["_law_rows", "_law_weights", "_law_head"] (spTwo K) := by
  refine F.ok sc__law_two (fun vs H Q E h => ?_) (fun cdv A outer s H vs Q E hr h => ?_)
  · obtain ⟨a, b, as, m, rs, ws, hd, rfl, _⟩ := h
    rfl
  obtain ⟨a, b, as, m, rs, ws, hd, rfl, hA, hR, hO, hne, hr90, hB, hwl, hwb, hpart, hd0, q⟩ := h
  refine ⟨_, (pss_cons (ps_asg (pe_cal c__law_numbers_of (hr.mono (by decide)) rfl (pa_cons (pv 0) (pa_cons (pv 1) pa_nil))) (pg_lstK (K := K) (n := 3) rfl rfl (pgs_cons (pg_name (i := 3) sc__law_two.nd rfl (Or.inl rfl)) (pgs_cons (pg_name (i := 4) sc__law_two.nd rfl (Or.inl rfl)) (pgs_cons (pg_name (i := 5) sc__law_two.nd rfl (Or.inl rfl)) pgs_nil)))))
      (pss_cons (ps_join (ps_set (i := 6) sc__law_two.nd rfl (Or.inl rfl) (pe_ix (ix_listK (K := K) rfl) (pe_lst (pa_cons pe_int (pa_cons (pe_op op_mod (pe_op op_fdivP (pv 2) pe_int) pe_int) (pa_cons (pe_op op_mod (pe_op op_fdivP (pv 2) pe_int) pe_int) pa_nil)))) (pe_op op_mod (pe_op op_fdivP (pv 2) pe_int) pe_int) (fun _ _ => rfl))))
      (pss_cons (ps_join (ps_set (i := 7) sc__law_two.nd rfl (Or.inl rfl) (pe_op op_fdivP (pe_op op_mulB (pe_op op_add (pv 4) (pe_op op_mulB pe_int (pv 6))) (pv 5)) (pe_op op_mulB (pv 3) (pv 3)))))
      (pss_cons (ps_if (PW.pt (pw_or (pt_not (pt_val (pe_cal c__law_is (hr.mono (by decide)) rfl (pa_cons (pe_calK c_bound_of_K (hr.mono (by decide)) rfl passG_never (pa_cons (pv 0) (pa_cons (pv 1) pa_nil)) (pk_cons (pv 6) pk_nil)) (pa_cons (pv 7) pa_nil))))) (pw_or1 (pt_not (pt_val (pe_cal c__law_is (hr.mono (by decide)) rfl (pa_cons (pe_calG c_bound_of (hr.mono (by decide)) rfl passG_never (pa_cons (pe_lst pa_nil) (pa_cons (pv 1) (pa_cons (pv 6) pa_nil)))) (pa_cons pe_int pa_nil)))))))) (pss_one (ps_ret pe_bl)) pss_nil)
      (pss_cons (ps_if (pt_not (pt_val (pe_cal c__law_is (hr.mono (by decide)) rfl (pa_cons (pe_calD c_bound_of_D (hr.mono (by decide)) rfl passG_never (pa_cons (pv 0) (pa_cons (pv 1) pa_nil))) (pa_cons (pe_op op_fdivP (pe_op op_mulB (pv 4) (pv 5)) (pe_op op_mulB (pv 3) (pv 3))) pa_nil))))) (pss_one (ps_ret pe_bl)) pss_nil)
      (pss_cons (ps_join (ps_set (i := 8) sc__law_two.nd rfl (Or.inl rfl) (pe_op op_mod (pe_op op_fdivP (pv 2) pe_int) (pe_callB (call_lenK (K := K) rfl) rfl (T.nb "len" (by decide)) (by decide +kernel) (pa_cons (pv 0) pa_nil)))))
      (pss_cons (ps_join (ps_set (i := 9) sc__law_two.nd rfl (Or.inl rfl) (pe_op (op_catTK (K := K) rfl) (pe_slice (sl_tupK (K := K) rfl) (pv 1) po_none (po_some (pe_un un_neg pe_int))) (pe_tup (pa_cons (pe_op op_sub (pe_ix (ix_tupK (K := K) rfl) (pv 1) (pe_un un_neg pe_int) (fun _ _ => rfl)) (pe_cal c__law_product (hr.mono (by decide)) rfl (pa_cons (pv 1) (pa_cons (pe_ix (ix_tupK (K := K) rfl) (pe_ix (ix_listK (K := K) rfl) (pv 0) (pv 8) (fun _ _ => rfl)) pe_int (fun _ _ => rfl)) pa_nil)))) pa_nil)))))
      (pss_cons (ps_join (ps_for PassesOwn.never rfl (pi_list (pe_lst (pa_cons (pe_op (op_repOne (K := K) rfl) (pe_tup (pa_cons pe_int pa_nil)) (pe_callB (call_lenK (K := K) rfl) rfl (T.nb "len" (by decide)) (by decide +kernel) (pa_cons (pv 1) pa_nil))) (pa_cons (pv 9) pa_nil)))) (pg_name (i := 10) sc__law_two.nd rfl (Or.inl rfl)) (pss_one (ps_if (pt_not (pt_val (pe_cal c__law_not_parted (hr.mono (by decide)) rfl (pa_cons (pv 0) (pa_cons (pv 10) (pa_cons pe_bl pa_nil)))))) (pss_one (ps_ret pe_bl)) pss_nil))))
      (pss_cons (ps_if (pt_cmpR op_ne (pe_op op_mod (pe_op op_fdivP (pv 2) pe_int) pe_int) pe_int (nomark _)) (pss_one (ps_ret pe_bl)) pss_nil)
      (pss_one (ps_ret (pe_cal c__law_not_parted (hr.mono (by decide)) rfl (pa_cons (pe_op op_cat (pe_op op_cat (pe_slice (sl_listK (K := K) rfl) (pv 0) po_none (po_some (pv 8))) (pe_lst (pa_cons (pe_tup (pa_cons (pe_ix (ix_tupK (K := K) rfl) (pe_ix (ix_listK (K := K) rfl) (pv 0) (pv 8) (fun _ _ => rfl)) pe_int (fun _ _ => rfl)) (pa_cons (pe_op op_sub pe_int (pe_ix (ix_tupK (K := K) rfl) (pe_ix (ix_listK (K := K) rfl) (pv 0) (pv 8) (fun _ _ => rfl)) pe_int (fun _ _ => rfl))) pa_nil))) pa_nil))) (pe_slice (sl_listK (K := K) rfl) (pv 0) (po_some (pe_op op_add (pv 8) pe_int)) po_none)) (pa_cons (pv 1) (pa_cons pe_bl pa_nil))))))))))))))), ?_⟩
  have hal : as.length = rs.length := Paired.length hR
  have hfew := hO.few
  have hpos := hO.pos
  have hlen : 0 < rs.length := List.length_pos_iff.mpr hne
  have hwb2 : ∀ w ∈ ws, w.natAbs ≤ 1000000000 := fun w hw => by have := hwb w hw; omega
  have hparted : ((gaps ws rs).all fun n => decide (0 < n)) = true := by
    rw [List.all_eq_true]
    intro z hz
    unfold gaps at hz
    obtain ⟨r1, hr1, rfl⟩ := List.mem_map.mp hz
    exact decide_eq_true (hpart r1 hr1)
  refine ⟨_, rfl, _, rfl, a, b, as, m, rs, ws, rfl, hA, hR, hO, hne, hB, by omega, fun x hx => small_bits9 (hwb2 x hx), fun r H1 z f s1 hr0 hR1 hz1 hz2 hf1 hf2 => ?_⟩
  have ef := far_is (m := m) hf1 hf2
  subst ef
  refine ⟨r, _, rfl, SqL.of hR1, rfl, _, _, rfl, _, _, rfl, _, _, rfl, rfl, ?_⟩
  have hz0 : 0 < z := of_decide_eq_true (List.all_eq_true.mp hparted z hz1)
  have hza := gap_abs hO (by omega) hwb2 hz1
  obtain ⟨f0, f1⟩ := far_abs hO
  obtain ⟨w0, w1⟩ := sq_abs (ws := ws) (by omega) hwb2
  have hzz : 0 < z * z := Int.mul_pos hz0 hz0
  have hzzb : (z * z).natAbs ≤ 10000000000000 * 10000000000000 := by rw [Int.natAbs_mul]; exact Nat.mul_le_mul hza hza
  have hbz : Bits 1000 z := bits_of_abs (by omega) (by decide)
  have hbzz : Bits 9000 (z * z) := bits_of_abs (by omega) (by decide)
  have hbw : Bits 1000 (dot ws ws) := bits_of_abs (by omega) (by decide)
  -- the margin
  refine ⟨fun σ H' => ∃ rm : Int, 0 ≤ rm ∧ rm ≤ 1000 ∧ σ = [some (.ref a), some (.ref b), some (.int hd), some (.int z), some (.int (farF rs)), some (.int (dot ws ws)), some (.int rm), none, none, none, none] ∧ Same H1 H', ?_, ?_⟩
  · refine ⟨_, rfl, _, _, rfl, rfl, div64 (by decide) (by decide), _, _, rfl, rfl, (by show (0 : Int) < 21; decide), _, rfl, _, _, rfl, rfl, div64 (by decide) (by decide), _, _, rfl, rfl, (by show (0 : Int) < 1001; decide), (by show 3 ≤ sizeLine; decide), fun p1 hp1 => ?_⟩
    obtain ⟨rm, h1, h2, hat⟩ : ∃ rm : Int, 0 ≤ rm ∧ rm ≤ 1000 ∧ atI [V.int 0, .int (hd / 24 % 21), .int (hd / 24 % 1001)] (hd / 8 % 3) = some (.int rm) := by
      have h3 : hd / 8 % 3 = 0 ∨ hd / 8 % 3 = 1 ∨ hd / 8 % 3 = 2 := by omega
      rcases h3 with e | e | e
      · exact ⟨0, by decide, by decide, by rw [e]; rfl⟩
      · exact ⟨hd / 24 % 21, by omega, by omega, by rw [e]; rfl⟩
      · exact ⟨hd / 24 % 1001, by omega, by omega, by rw [e]; rfl⟩
    refine ⟨_, rfl, _, _, rfl, rfl, div64 (by decide) (by decide), _, _, rfl, rfl, (by show (0 : Int) < 3; decide), p1, _, _, _, rfl, rfl, SqL.of upd_same, hat, ?_⟩
    exact ⟨rm, h1, h2, rfl, Same.new hp1 _⟩
  rintro σ H2 ⟨rm, rm0, rm1, rfl, s2⟩
  -- what is due
  refine ⟨fun σ H' => ∃ du : Int, du = bndF rs ws rm z ∧ σ = [some (.ref a), some (.ref b), some (.int hd), some (.int z), some (.int (farF rs)), some (.int (dot ws ws)), some (.int rm), some (.int du), none, none, none] ∧ H' = H2, ?_, ?_⟩
  · refine ⟨_, rfl, _, rfl, _, _, rfl, rfl, mul64 (by decide) (by decide) (by omega) (by omega), _, _, rfl, rfl, _, rfl, _, _, rfl, rfl, ⟨1000, by decide, bits_of_abs (by show (farF rs + 2 * rm).natAbs ≤ _; omega) (by decide), hbw⟩, _, rfl, _, rfl, _, _, rfl, rfl, ⟨1000, by decide, hbz, hbz⟩, _, _, rfl, rfl, ⟨hzz, hbzz⟩, ?_⟩
    exact ⟨_, rfl, rfl, rfl⟩
  rintro σ H2' ⟨du, hdu, rfl, rfl⟩
  have s12 := s1.trans s2
  have same_z : ∀ z2, z2 ∈ gaps ws rs → (∀ b ∈ gaps ws rs, z2 ≤ b) → z2 = z := fun z2 h1 h2 => by
    have a1 := h2 z hz1
    have a2 := hz2 z2 h1
    omega
  refine ⟨_, rfl, _, rfl, _, rfl, a, b, as, m, rs, ws, rm, rfl, s12.seq hA, hR.same s12, hO, s12.seqT hB, by omega, hwb2, rm0, rm1, fun n => (by rw [hparted] at n; cases n), fun n => absurd n hne, fun _ _ z2 H3 s3 h1 h2 => ?_⟩
  have ez := same_z z2 h1 h2
  subst ez
  refine ⟨_, rfl, bndF rs ws rm z2, by rw [hdu]; rfl, _, rfl, ?_⟩
  refine iteF ?_
  have s13 := s12.trans s3
  refine ⟨(by show 0 ≤ sizeLine; decide), fun p0 hp0 => ?_⟩
  have s4 := Same.new hp0 (.lst [])
  have hP0 : upd H3 p0 (.lst []) p0 = some (.lst []) := upd_same
  generalize upd H3 p0 (.lst []) = H4 at *
  have s14 := s13.trans s4
  refine ⟨_, rfl, _, rfl, p0, b, [], m, [], ws, rm, rfl, SqL.of hP0, .nil, hO.sub (by simp) (fun r h => by simp at h), s14.seqT hB, by omega, hwb2, rm0, rm1, fun n => (by simp [gaps] at n), fun _ H5 s5 => ?_, fun _ n => absurd rfl n⟩
  refine ⟨0, rfl, _, rfl, ?_⟩
  refine iteF ?_
  have s15 := s14.trans s5
  refine ⟨_, rfl, _, rfl, a, b, as, m, rs, ws, 0, rfl, s15.seq hA, hR.same s15, hO, s15.seqT hB, by omega, hwb2, by decide, by decide, fun n => (by rw [hparted] at n; cases n), fun n => absurd n hne, fun _ _ z3 H6 s6 h1 h2 => ?_⟩
  have ez := same_z z3 h1 h2
  subst ez
  refine ⟨_, rfl, _, rfl, _, _, rfl, rfl, ⟨1000, by decide, bits_of_abs (by omega) (by decide), hbw⟩, _, rfl, _, rfl, _, _, rfl, rfl, ⟨1000, by decide, hbz, hbz⟩, _, _, rfl, rfl, ⟨hzz, hbzz⟩, farF rs * dot ws ws / (z3 * z3), ?_, _, rfl, ?_⟩
  · show [V.int ((farF rs + 2 * 0) * dot ws ws / (z3 * z3)), .int (farF rs * dot ws ws / (z3 * z3))] = _
    rw [Int.mul_zero, Int.add_zero]
  refine iteF ?_
  have s16 := s15.trans s6
  -- the place
  refine ⟨fun σ H' => ∃ k : Nat, k < rs.length ∧ σ = [some (.ref a), some (.ref b), some (.int hd), some (.int z3), some (.int (farF rs)), some (.int (dot ws ws)), some (.int rm), some (.int du), some (.int k), none, none] ∧ H' = H6, ?_, ?_⟩
  · refine ⟨_, rfl, _, _, rfl, rfl, div64 (by decide) (by decide), _, rfl, a, _, rfl, .inl (s16.seq hA), _, _, rfl, rfl, (by show (0 : Int) < ((as.map V.ref).length : Int); rw [List.length_map]; omega), ?_⟩
    have h0 := Int.emod_nonneg (hd / 24) (b := (rs.length : Int)) (by omega)
    have h1 := Int.emod_lt_of_pos (hd / 24) (b := (rs.length : Int)) (by omega)
    refine ⟨(hd / 24 % (rs.length : Int)).toNat, by omega, ?_, rfl⟩
    show [some (V.ref a), some (.ref b), some (.int hd), some (.int z3), some (.int (farF rs)), some (.int (dot ws ws)), some (.int rm), some (.int du), some (.int (hd / 24 % ((as.map V.ref).length : Int))), none, none] = _
    rw [List.length_map, hal, Int.toNat_of_nonneg h0]
  rintro σ H6 ⟨k, hk, rfl, rfl⟩
  obtain ⟨A0, hA0⟩ : ∃ A0, as[k]? = some A0 := ⟨as[k], List.getElem?_eq_getElem (by omega)⟩
  obtain ⟨r, hr1, p, hr2, hr3⟩ := paired_get hR hA0
  have hrm := List.mem_of_getElem? hr1
  have hrl := hO.cnt r hrm
  have hrlow := hO.low r hrm
  have hat1 : atI (as.map V.ref) (k : Int) = some (.ref A0) := at_k (k := k) (by rw [List.getElem?_map, hA0]; rfl) rfl
  have hat2 : atI [V.ref p, .int r.2] 0 = some (.ref p) := at_k (k := 0) rfl rfl
  have hat3 : atI [V.ref p, .int r.2] 1 = some (.int r.2) := at_k (k := 1) rfl rfl
  obtain ⟨us, c, ew, hul⟩ := last_split hwl
  have hdot : (dot ws (r.1 ++ [1])).natAbs ≤ 1000000 := by
    have b1 := dot_abs (A := 10) (B := 1000) (ws := ws) (xs := r.1 ++ [1]) (fun w hw => by have := hwb w hw; omega) (fun x hx => by have := Hnd.low_snoc hrlow x hx; omega)
    have b2 : ws.length * (10 * 1000) ≤ 5 * (10 * 1000) := Nat.mul_le_mul_right _ (by omega)
    omega
  -- weights with a product of 0
  refine ⟨fun σ H' => ∃ (t : Addr) (fl : List Int), BadW m rs fl ∧ σ = [some (.ref a), some (.ref b), some (.int hd), some (.int z3), some (.int (farF rs)), some (.int (dot ws ws)), some (.int rm), some (.int du), some (.int k), some (.ref t), none] ∧ Same H6 H' ∧ H' t = some (.tup (fl.map V.int)), ?_, ?_⟩
  · have hBu : SqT K H6 b ((us ++ [c]).map V.int) := by rw [← ew]; exact s16.seqT hB
    refine ⟨_, rfl, _, rfl, -1, rfl, b, _, rfl, hBu, ?_, fun p1 hp1 => ?_⟩
    · rintro ⟨_, h2⟩
      have e1 : HT.sIx ((us ++ [c]).map V.int).length ((us ++ [c]).map V.int).length (some (-1)) = us.length := by
        show (if (-1 : Int) < 0 then (-1 + (((us ++ [c]).map V.int).length : Int)).toNat else min (-1 : Int).toNat ((us ++ [c]).map V.int).length) = us.length
        rw [if_pos (by decide), List.length_map, List.length_append, List.length_singleton]; omega
      rw [e1, List.length_map, List.length_append, List.length_singleton] at h2
      omega
    rw [cut_last]
    have s7 := Same.new hp1 (.tup (us.map V.int))
    have hP1 : upd H6 p1 (.tup (us.map V.int)) p1 = some (.tup (us.map V.int)) := upd_same
    generalize upd H6 p1 (.tup (us.map V.int)) = H7 at *
    have s17 := s16.trans s7
    refine ⟨_, rfl, _, rfl, b, _, _, _, rfl, rfl, s7.seqT hBu, at_last, _, rfl, _, rfl, _, rfl, a, _, _, _, rfl, rfl, s17.seq hA, hat1, A0, _, _, _, rfl, rfl, s17.seqT hr2, hat2, ?_⟩
    refine ⟨b, p, true, true, ws, r.1, rfl, s17.seqT hB, s17.seqT hr3, by omega, by omega, fun w hw => (small_bits9 (w := w) (hwb2 w hw)).mono (by decide), hO.bits hrm (by decide), fun H8 s8 => ?_⟩
    refine ⟨_, _, rfl, rfl, (by show 1 ≤ sizeLine; decide), fun t ht => ?_⟩
    have s9 := Same.new ht (.tup [.int (c - dot ws (r.1 ++ [1]))])
    refine ⟨p1, t, _, _, rfl, rfl, SqT.of (s9 _ _ (s8 _ _ hP1)), SqT.of upd_same, ?_, ?_, fun n => absurd n (by simp), fun _ p2 hp2 => ?_⟩
    · intro n
      have : us = [] := List.map_eq_nil_iff.mp n
      rw [this] at hul
      simp at hul
      omega
    · rw [List.length_map]; exact Nat.le_of_lt (small1000 (by show us.length + 1 ≤ 1000; omega))
    refine ⟨p2, us ++ [c - dot ws (r.1 ++ [1])], ⟨by rw [List.length_append, hul]; rfl, fun w hw => ?_, ?_⟩, rfl, s7.trans (s8.trans (s9.trans (Same.new hp2 _))), by rw [upd_same, List.map_append]; rfl⟩
    · rcases List.mem_append.mp hw with h | h
      · have := hwb w (by rw [ew]; exact List.mem_append_left _ h); omega
      · rw [List.mem_singleton.mp h]
        have := hwb c (by rw [ew]; simp)
        omega
    · refine bad_of hrm ?_
      rw [dot_off (by rw [hul, hrl]), ← ew, Int.sub_self, turn_zero]
      omega
  rintro σ H7 ⟨t, fl, hfl, rfl, s7, hT7⟩
  have s17 := s16.trans s7
  -- both are refused
  refine ⟨fun σ H' => ∃ v : Option V, σ = [some (.ref a), some (.ref b), some (.int hd), some (.int z3), some (.int (farF rs)), some (.int (dot ws ws)), some (.int rm), some (.int du), some (.int k), some (.ref t), v] ∧ Same H7 H', ?_, ?_⟩
  · refine ⟨(by show 1 ≤ sizeLine; decide), fun t0 ht0 => ?_⟩
    have s8 := Same.new ht0 (.tup [.int 0])
    have hT8 : upd H7 t0 (.tup [.int 0]) t0 = some (.tup [.int 0]) := upd_same
    generalize upd H7 t0 (.tup [.int 0]) = H8 at *
    refine ⟨_, rfl, b, _, rfl, .inr ((s17.trans s8).seqT hB), t0, ((m + 1 : Nat) : Int), .int 0, rfl, by rw [List.length_map, hwl], SqT.of hT8, by omega, by omega, fun p0 H9 s9 hp0 => ?_⟩
    rw [Int.toNat_natCast] at hp0
    have e0 : List.replicate (m + 1) (V.int 0) = (List.replicate (m + 1) (0 : Int)).map V.int := by rw [List.map_replicate]
    rw [e0] at hp0
    refine ⟨_, rfl, (by show 2 ≤ sizeLine; decide), fun l hl => ?_⟩
    have s10 := Same.new hl (.lst [.ref p0, .ref t])
    have hL : upd H9 l (.lst [.ref p0, .ref t]) l = some (.lst [.ref p0, .ref t]) := upd_same
    generalize upd H9 l (.lst [.ref p0, .ref t]) = HA at *
    have s7A := s8.trans (s9.trans s10)
    have both : ∀ (i : Nat) x, [V.ref p0, .ref t][i]? = some x → ∃ t1 fl1, x = .ref t1 ∧ BadW m rs fl1 ∧ SqT K HA t1 (fl1.map V.int) := fun i x hx => by
      match i, hx with
      | 0, hx => cases hx; exact ⟨p0, _, rfl, bad_zeros hne, s10.seqT hp0⟩
      | 1, hx => cases hx; exact ⟨t, fl, rfl, hfl, SqT.of (s7A _ _ hT7)⟩
      | i + 2, hx => simp at hx
    refine ⟨l, rfl, ⟨_, SqL.of hL⟩, ?_⟩
    refine for_list (xs := [V.ref p0, .ref t]) (fun i σ H' => ∃ v : Option V, σ = [some (.ref a), some (.ref b), some (.int hd), some (.int z3), some (.int (farF rs)), some (.int (dot ws ws)), some (.int rm), some (.int du), some (.int k), some (.ref t), v] ∧ Same HA H') ⟨none, rfl, Same.refl _⟩ (fun i σ H' _ ⟨_, _, e⟩ => e.seq (SqL.of hL)) ?_ ?_
    · rintro i x σ H' hx ⟨v, rfl, sB⟩
      obtain ⟨t1, fl1, rfl, hb1, hs1⟩ := both i x hx
      have s1B := s17.trans (s7A.trans sB)
      refine ⟨_, rfl, _, rfl, ⟨a, t1, false, rfl, .inl ⟨rfl, fun Q' E' h => ⟨a, t1, as, m, rs, fl1, 1, rfl, s1B.seq hA, hR.same s1B, hO, sB.seqT hs1, by rw [hb1.len]; omega, hb1.low, by decide, by decide, fun _ => h, fun n => absurd n hne, fun n => (by rw [hb1.bad] at n; cases n)⟩⟩, fun H3 s3 => ?_⟩⟩
      refine ⟨_, rfl, ?_⟩
      refine iteF ?_
      exact ⟨_, rfl, sB.trans s3⟩
    · rintro σ H' ⟨v, rfl, sB⟩
      exact ⟨v, rfl, s7A.trans sB⟩
  rintro σ H8 ⟨v, rfl, s8⟩
  have s18 := s17.trans s8
  refine ⟨_, rfl, _, _, rfl, rfl, div64 (by decide) (by decide), _, _, rfl, rfl, (by show (0 : Int) < 3; decide), rfl, _, rfl, ?_⟩
  refine iteND (fun _ => ?_) (fun _ => ?_)
  · exact q H8 s18
  -- one row's side turned
  refine ⟨_, rfl, _, rfl, (k : Int), rfl, a, _, rfl, s18.seq hA, fun p1 hp1 => ?_⟩
  rw [cutL_map, cutL_to as (by omega) (by omega), Int.toNat_natCast]
  have s9 := Same.new hp1 (.lst ((as.take k).map V.ref))
  have hP1 : upd H8 p1 (.lst ((as.take k).map V.ref)) p1 = some (.lst ((as.take k).map V.ref)) := upd_same
  generalize upd H8 p1 (.lst ((as.take k).map V.ref)) = H9 at *
  have s19 := s18.trans s9
  refine ⟨_, rfl, _, rfl, a, _, _, _, rfl, rfl, s19.seq hA, hat1, A0, _, _, _, rfl, rfl, s19.seqT hr2, hat2, _, rfl, _, rfl, a, _, _, _, rfl, rfl, s19.seq hA, hat1, A0, _, _, _, rfl, rfl, s19.seqT hr2, hat3, _, _, rfl, rfl, (by show 2 ≤ sizeLine; decide), fun T0 hT0 => ?_⟩
  have s10 := Same.new hT0 (.tup [.ref p, .int (1 - r.2)])
  have hT10 : upd H9 T0 (.tup [.ref p, .int (1 - r.2)]) T0 = some (.tup [.ref p, .int (1 - r.2)]) := upd_same
  refine ⟨(by show 1 ≤ sizeLine; decide), fun L0 hL0 => ?_⟩
  have s11 := Same.new hL0 (.lst [.ref T0])
  have s9b := s10.trans s11
  refine ⟨p1, L0, _, _, rfl, rfl, s9b _ _ hP1, upd_same, by rw [List.length_map, List.length_take]; exact Nat.le_of_lt (small1000 (by show min k as.length + 1 ≤ 1000; omega)), fun p2 hp2 => ?_⟩
  have s12' := Same.new hp2 (.lst ((as.take k).map V.ref ++ [.ref T0]))
  have s1c := s19.trans (s9b.trans s12')
  refine ⟨_, rfl, _, rfl, _, _, rfl, rfl, (k : Int) + 1, rfl, a, _, rfl, s1c.seq hA, fun p3 hp3 => ?_⟩
  rw [cutL_map, cutL_from as (by omega) (by omega)]
  have ek : ((k : Int) + 1).toNat = k + 1 := by omega
  rw [ek]
  have s13' := Same.new hp3 (.lst ((as.drop (k + 1)).map V.ref))
  refine ⟨p2, p3, _, _, rfl, rfl, s13' _ _ upd_same, upd_same, by rw [List.length_append, List.length_map, List.length_map, List.length_take, List.length_drop]; exact Nat.le_of_lt (small1000 (by show min k as.length + 1 + (as.length - (k + 1)) ≤ 1000; omega)), fun p4 hp4 => ?_⟩
  have s14' := Same.new hp4 (.lst ((as.take k).map V.ref ++ [.ref T0] ++ (as.drop (k + 1)).map V.ref))
  have sE := s1c.trans (s13'.trans s14')
  have sT := s11.trans (s12'.trans (s13'.trans s14'))
  have hrows := rows_mid (r := (r.1, 1 - r.2)) k (k + 1) (hR.same sE) (sT.seqT (SqT.of hT10)) (sE.seqT hr3)
  have hrok : RowsOk m (rs.take k ++ [(r.1, 1 - r.2)] ++ rs.drop (k + 1)) := hO.mid hr90 hrl hrlow (by have := hO.sid r hrm; show 1 - r.2 = 0 ∨ 1 - r.2 = 1; omega)
  have hbad : ((gaps ws (rs.take k ++ [(r.1, 1 - r.2)] ++ rs.drop (k + 1))).all fun n => decide (0 < n)) = false := by
    refine bad_of (r := (r.1, 1 - r.2)) (by simp) ?_
    have h0 := hpart r hrm
    unfold turnF at *
    rcases hO.sid r hrm with e | e
    · rw [e] at h0 ⊢
      simp at h0 ⊢
      omega
    · rw [e] at h0 ⊢
      simp at h0 ⊢
      omega
  refine ⟨_, rfl, ⟨p4, b, false, rfl, .inl ⟨rfl, fun Q' E' h => ⟨p4, b, as.take k ++ [T0] ++ as.drop (k + 1), m, rs.take k ++ [(r.1, 1 - r.2)] ++ rs.drop (k + 1), ws, 1, rfl, SqL.of (by rw [upd_same, List.map_append, List.map_append]; rfl), hrows, hrok, sE.seqT hB, by omega, hwb2, by decide, by decide, fun _ => h, fun n => absurd n (by simp), fun n => (by rw [hbad] at n; cases n)⟩⟩, fun HE sF => ?_⟩⟩
  exact q HE (sE.trans sF)
end
end Mw
namespace Mw
open PySem L2
section
variable {P : Program} {w : World} {K : PySem.W.Frag} {mg : Str → Option Value} {base : Heap} {f : Addr} {fd : FuncData} {X_MendError X_NoSide X_NotParted X_NoFraction X_NoPoint X_NoRow X_NoTable X_NoText X_OneSide X_TooMany X_WrongBook : Addr}
theorem sc__law_best : FnScope ["_law_weights", "_law_point", "_law_much", "_law_best_here"] ["_law_weights", "_law_point"] (defScope (top 42)) := ⟨rfl, rfl, rfl, by decide +kernel, rfl, by decide +kernel, by decide +kernel⟩
theorem ok__law_best (F : Fun K "_law_best" "_law_best" (top 42) f fd) (T : Txt BN mg) (c__law_product : Cal P w K mg base 1 "_law_product" ["_law_weights", "_law_point"] (spLProd K)) : FnOk P w K mg base CX0 3 f fd ["_law_weights", "_law_point"] (spBest K) := by
  refine F.ok sc__law_best (fun vs H Q E h => ?_) (fun cdv A outer s H vs Q E hr h => ?_)
  · obtain ⟨b, p, bs, xs, wss, rfl, _⟩ := h
    rfl
  obtain ⟨b, p, bs, xs, wss, rfl, hP, hx4, hxl, hB, hT, hW, q⟩ := h
  refine ⟨_, (pss_cons (ps_set (i := 2) sc__law_best.nd rfl (Or.inr rfl) (pe_comp (sc := defScope (top 42)) (N := ["_law_weights", "_law_point", "_law_much", "_law_best_here"]) (NB := ["_law_one", "_law_point"]) (fr := [none, some 1]) rfl (by decide +kernel) (pi_tup (pv 0)) (fun _ _ _ _ => (pg_name (i := 0) (show (["_law_one", "_law_point"] : List Str).Nodup by decide +kernel) rfl (Or.inl rfl))) (fun _ _ _ _ => .nil) (fun _ _ _ _ => (pe_cal c__law_product (hr.mono (by decide)) rfl (pa_cons (pv 0) (pa_cons (pv 1) pa_nil))))))
      (pss_cons (ps_comp (i := 3) sc__law_best.nd rfl rfl (sc := defScope (top 42)) (N := ["_law_weights", "_law_point", "_law_much", "_law_best_here"]) (NB := ["_law_side", "_law_one", "_law_much"]) (fr := [none, none, some 2]) rfl (by decide +kernel) (pi_enum rfl (T.nb "enumerate" (by decide)) (pa_cons (pv 2) pa_nil)) (fun _ _ _ _ => (pg_tupK (K := K) (n := 2) rfl rfl (pgs_cons (pg_name (i := 0) (show (["_law_side", "_law_one", "_law_much"] : List Str).Nodup by decide +kernel) rfl (Or.inl rfl)) (pgs_cons (pg_name (i := 1) (show (["_law_side", "_law_one", "_law_much"] : List Str).Nodup by decide +kernel) rfl (Or.inl rfl)) pgs_nil)))) (fun _ _ _ _ => .one (pt_cmpR op_eq (pv 1) (pe_callB (call_maxK (K := K) rfl rfl) rfl (T.nb "max" (by decide)) (by decide +kernel) (pa_cons (pv 2) pa_nil)) (nomark _))) (fun _ _ _ _ => (pv 0)))
      (pss_one (ps_ret (pe_lst (pa_cons (pe_ix (ix_listK (K := K) rfl) (pv 3) pe_int (fun _ _ => rfl)) (pa_cons (pe_op op_sub (pe_ix (ix_listK (K := K) rfl) (pv 2) (pe_ix (ix_listK (K := K) rfl) (pv 3) pe_int (fun _ _ => rfl)) (fun _ _ => rfl)) (pe_callB (call_maxL rfl) rfl (T.nb "max" (by decide)) (by decide +kernel) (pa_cons (pe_op op_cat (pe_slice (sl_listK (K := K) rfl) (pv 2) po_none (po_some (pe_ix (ix_listK (K := K) rfl) (pv 3) pe_int (fun _ _ => rfl)))) (pe_slice (sl_listK (K := K) rfl) (pv 2) (po_some (pe_op op_add (pe_ix (ix_listK (K := K) rfl) (pv 3) pe_int (fun _ _ => rfl)) pe_int)) po_none)) pa_nil))) pa_nil))))))), ?_⟩
  have hbl : bs.length = wss.length := Paired.length hT
  have hw5 := hW.few
  have hw2 := hW.two
  refine ⟨_, rfl, b, rfl, ⟨_, hB⟩, fun D hD => ?_⟩
  refine comp_tup_rel (xs := bs.map V.ref) (fun _ i y => ∀ ws, wss[i]? = some ws → y = .int (dot ws (xs ++ [1]))) (fun _ _ _ _ _ h => h) hB (by rw [List.length_map, hbl]; exact Nat.le_of_lt (small1000 (by omega))) hD ?_ ?_
  · rintro i x H1 R hx s1 _ hq
    obtain ⟨A0, hA1, rfl⟩ := of_map hx
    obtain ⟨ws, hw1, hw2⟩ := paired_get hT hA1
    have hwm := List.mem_of_getElem? hw1
    refine ⟨wk1 rfl, ?_⟩
    refine ⟨_, rfl, _, rfl, A0, p, true, true, ws, xs, rfl, s1.seqB (SqT.of hw2), s1.seqT hP, by omega, by have := hW.len ws hwm; omega, fun w hw => (small_bits9 (w := w) (by have := hW.low ws hwm w hw; omega)).mono (by decide), fun x hx => ?_, fun H2 s2 => hq _ H2 s2 fun ws2 hw2 => ?_⟩
    · have hx1 := hxl x hx
      exact (small_bits9 (w := x) (by omega)).mono (by decide)
    · rw [hw1] at hw2; cases hw2; rfl
  rintro zs H1 s1 hD1 hz1 hz2
  rw [List.length_map, hbl] at hz1
  have ez : zs = (pdS wss xs).map V.int := by
    unfold pdS
    rw [List.map_map]
    exact ys_map hz1 fun j y r h1 h2 => hz2 j y h1 r h2
  subst ez
  have hpl : (pdS wss xs).length = wss.length := by unfold pdS; rw [List.length_map]
  have hne : pdS wss xs ≠ [] := fun z => by rw [z] at hpl; simp at hpl; omega
  have hbl2 := best_lt (pt := xs) hW
  refine ⟨_, rfl, D, rfl, ⟨_, SqL.of hD1⟩, fun D2 hD2 => ?_⟩
  refine comp_enum_filter (xs := (pdS wss xs).map V.int) (fun j => decide ((pdS wss xs).getD j 0 = topI (pdS wss xs))) (fun j => .int (j : Nat)) (SqL.of hD1) (by rw [List.length_map]; exact Nat.le_of_lt (small1000 (by omega))) hD2 ?_ ?_
  · rintro i x T0 H2 R R' hx s2 hT0 h1 h2
    obtain ⟨n, hn, rfl⟩ := of_map hx
    have hg : (pdS wss xs).getD i 0 = n := by rw [List.getD_eq_getElem?_getD, hn]; rfl
    refine ⟨T0, _, rfl, SqT.of upd_same, rfl, _, _, rfl, _, _, rfl, rfl, ⟨rfl, ?_⟩, ?_⟩
    · intro k v ek
      match k, ek with
      | 2, ek => exact ek
      | 0, ek => simp [carry] at ek
      | 1, ek => simp [carry] at ek
      | k + 3, ek => simp [carry] at ek
    refine ⟨_, rfl, _, rfl, D, pdS wss xs, rfl, (s2.trans (Same.new hT0 _)).seq (SqL.of hD1), List.length_pos_iff.mpr hne, fun mx hm1 hm2 => ?_⟩
    have em := topI_eq hm1 hm2
    subst em
    refine ⟨rfl, _, rfl, ?_⟩
    refine iteD (fun c => ?_) (fun c => ?_)
    · exact ⟨_, rfl, h1 (by rw [hg]; simpa using c) _ (Same.refl _)⟩
    · exact h2 (by rw [hg]; simpa using c) _ (Same.refl _)
  rintro H2 s2 hD2'
  rw [List.length_map, picked_ints] at hD2'
  have eb : ((List.range (pdS wss xs).length).filter fun j => decide ((pdS wss xs).getD j 0 = topI (pdS wss xs))) = bestS (pdS wss xs) := rfl
  rw [eb] at hD2'
  have hb := bestS_ne hne
  have ebst : bst wss xs = (bestS (pdS wss xs)).headD 0 := rfl
  cases e : bestS (pdS wss xs) with
  | nil => exact absurd e hb
  | cons j rr =>
    rw [e] at hD2' ebst
    have ej : bst wss xs = j := ebst
    rw [ej] at q hbl2
    have hl : j < (pdS wss xs).length := by omega
    have hD12 := s2 _ _ hD1
    have at0 : atI (((j :: rr).map Nat.cast).map V.int) 0 = some (.int (j : Nat)) := at_k (k := 0) rfl rfl
    have atj : atI ((pdS wss xs).map V.int) (j : Int) = some (.int ((pdS wss xs)[j])) := at_k (k := j) (by rw [List.getElem?_map, List.getElem?_eq_getElem hl]; rfl) rfl
    refine ⟨_, rfl, D2, _, _, _, rfl, rfl, SqL.of hD2', at0, ?_⟩
    refine ⟨_, rfl, _, rfl, D2, _, _, _, rfl, rfl, SqL.of hD2', at0, D, _, _, _, rfl, rfl, SqL.of hD12, atj, ?_⟩
    refine ⟨_, rfl, _, rfl, D2, _, _, _, rfl, rfl, SqL.of hD2', at0, (j : Int), rfl, D, _, rfl, SqL.of hD12, fun p1 hp1 => ?_⟩
    rw [cut_map, cutI_to _ (by omega) (by omega), Int.toNat_natCast]
    have s3 := Same.new hp1 (.lst (((pdS wss xs).take j).map V.int))
    refine ⟨_, rfl, _, rfl, D2, _, _, _, rfl, rfl, SqL.of (s3 _ _ hD2'), at0, _, _, rfl, rfl, (j : Int) + 1, rfl, D, _, rfl, SqL.of (s3 _ _ hD12), fun p2 hp2 => ?_⟩
    rw [cut_map, cutI_from _ (by omega) (by omega)]
    have e1 : ((j : Int) + 1).toNat = j + 1 := by omega
    rw [e1]
    have s4 := Same.new hp2 (.lst (((pdS wss xs).drop (j + 1)).map V.int))
    refine ⟨p1, p2, _, _, rfl, rfl, s4 _ _ upd_same, upd_same, by rw [List.length_map, List.length_map, List.length_take, List.length_drop]; exact Nat.le_of_lt (small1000 (by omega)), fun p3 hp3 => ?_⟩
    refine ⟨p3, othS (pdS wss xs) j, rfl, SqL.of (by rw [upd_same]; unfold othS; rw [List.map_append]), oth_ne hW hbl2, fun mx hm1 hm2 => ?_⟩
    have em := topI_eq hm1 hm2
    subst em
    refine ⟨_, _, rfl, rfl, (by show 2 ≤ sizeLine; decide), fun p4 hp4 => ?_⟩
    have eg : rgap wss xs j = (pdS wss xs)[j] - topI (othS (pdS wss xs) j) := by
      unfold rgap
      rw [List.getD_eq_getElem?_getD, List.getElem?_eq_getElem hl]
      rfl
    rw [eg] at q
    have sAll := s1.trans (s2.trans (s3.trans (s4.trans (Same.new hp3 (.lst (((pdS wss xs).take j).map V.int ++ ((pdS wss xs).drop (j + 1)).map V.int))))))
    exact q p4 _ (sAll.trans (Same.new hp4 _)) (sAll.free hp4) upd_same
end
end Mw
namespace Mw
open PySem L2
section
variable {P : Program} {w : World} {K : PySem.W.Frag} {mg : Str → Option Value} {base : Heap} {f : Addr} {fd : FuncData} {X_MendError X_NoSide X_NotParted X_NoFraction X_NoPoint X_NoRow X_NoTable X_NoText X_OneSide X_TooMany X_WrongBook : Addr}
theorem sc__law_least : FnScope ["_law_rows", "_law_weights", "_law_found", "_law_point", "_law_side", "_law_much"] ["_law_rows", "_law_weights"] (defScope (top 43)) := ⟨rfl, rfl, rfl, by decide +kernel, rfl, by decide +kernel, by decide +kernel⟩
theorem ok__law_least (F : Fun K "_law_least" "_law_least" (top 43) f fd) (T : Txt BN mg) (c__law_product : Cal P w K mg base 1 "_law_product" ["_law_weights", "_law_point"] (spLProd K)) : FnOk P w K mg base CX0 3 f fd ["_law_rows", "_law_weights"] (spLeast K) := by
  refine F.ok sc__law_least (fun vs H Q E h => ?_) (fun cdv A outer s H vs Q E hr h => ?_)
  · obtain ⟨a, b, as, bs, m, rs, wss, rfl, _⟩ := h
    rfl
  obtain ⟨a, b, as, bs, m, rs, wss, rfl, hA, hR, hO, hne, hr90, hB, hT, hW, hin, q⟩ := h
  refine ⟨_, (pss_cons (ps_set (i := 2) sc__law_least.nd rfl (Or.inl rfl) (pe_lst pa_nil))
      (pss_cons (ps_for PassesOwn.never rfl (pi_list (pv 0)) (pg_tupK (K := K) (n := 2) rfl rfl (pgs_cons (pg_name (i := 3) sc__law_least.nd rfl (Or.inr rfl)) (pgs_cons (pg_name (i := 4) sc__law_least.nd rfl (Or.inr rfl)) pgs_nil))) (pss_cons (ps_set (i := 5) sc__law_least.nd rfl (Or.inr rfl) (pe_comp (sc := defScope (top 43)) (N := ["_law_rows", "_law_weights", "_law_found", "_law_point", "_law_side", "_law_much"]) (NB := ["_law_one", "_law_point"]) (fr := [none, some 3]) rfl (by decide +kernel) (pi_tup (pv 1)) (fun _ _ _ _ => (pg_name (i := 0) (show (["_law_one", "_law_point"] : List Str).Nodup by decide +kernel) rfl (Or.inl rfl))) (fun _ _ _ _ => .nil) (fun _ _ _ _ => (pe_cal c__law_product (hr.mono (by decide)) rfl (pa_cons (pv 0) (pa_cons (pv 1) pa_nil))))))
      (pss_one (ps_set (i := 2) sc__law_least.nd rfl (Or.inl rfl) (pe_op op_cat (pv 2) (pe_comp (sc := defScope (top 43)) (N := ["_law_rows", "_law_weights", "_law_found", "_law_point", "_law_side", "_law_much"]) (NB := ["_law_one", "_law_much", "_law_side"]) (fr := [none, some 5, some 4]) rfl (by decide +kernel) (pi_list (pe_op op_cat (pe_slice (sl_listK (K := K) rfl) (pv 5) po_none (po_some (pv 4))) (pe_slice (sl_listK (K := K) rfl) (pv 5) (po_some (pe_op op_add (pv 4) pe_int)) po_none))) (fun _ _ _ _ => (pg_name (i := 0) (show (["_law_one", "_law_much", "_law_side"] : List Str).Nodup by decide +kernel) rfl (Or.inl rfl))) (fun _ _ _ _ => .nil) (fun _ _ _ _ => (pe_op op_sub (pe_ix (ix_listK (K := K) rfl) (pv 1) (pv 2) (fun _ _ => rfl)) (pv 0)))))))))
      (pss_one (ps_ret (pe_callB (call_minL rfl) rfl (T.nb "min" (by decide)) (by decide +kernel) (pa_cons (pv 2) pa_nil)))))), ?_⟩
  have hal : as.length = rs.length := Paired.length hR
  have hbl : bs.length = wss.length := Paired.length hT
  have hw5 := hW.few
  refine ⟨(by show 0 ≤ sizeLine; decide), fun c hc => ?_⟩
  refine ⟨_, rfl, a, rfl, ⟨_, (Same.new hc _).seq hA⟩, ?_⟩
  refine for_list (xs := as.map V.ref) (fun i σ H' => ∃ (F0 : Addr) (v3 v4 v5 : Option V), σ = [some (.ref a), some (.ref b), some (.ref F0), v3, v4, v5] ∧ Same H H' ∧ H' F0 = some (.lst ((difs wss (rs.take i)).map V.int)))
    ⟨c, none, none, none, rfl, Same.new hc _, by rw [upd_same]; rfl⟩ (fun i σ H' _ ⟨_, _, _, _, _, e, _⟩ => e.seq hA) ?_ ?_
  · rintro i x σ H0 hx ⟨F0, v3, v4, v5, rfl, s0, hF⟩
    obtain ⟨A0, hA1, rfl⟩ := of_map hx
    obtain ⟨r, hr1, p, hr2, hr3⟩ := paired_get hR hA1
    have hrm := List.mem_of_getElem? hr1
    obtain ⟨n, en⟩ := Int.eq_ofNat_of_zero_le (hin r hrm).1
    have hn : n < wss.length := by have := (hin r hrm).2; omega
    refine ⟨A0, _, rfl, s0.seqT hr2, rfl, _, _, rfl, _, _, rfl, rfl, ?_⟩
    refine ⟨_, rfl, b, rfl, ⟨_, s0.seqT hB⟩, fun D hD => ?_⟩
    refine comp_tup_rel (xs := bs.map V.ref) (fun _ i y => ∀ ws, wss[i]? = some ws → y = .int (dot ws (r.1 ++ [1]))) (fun _ _ _ _ _ h => h) (s0.seqT hB) (by rw [List.length_map, hbl]; exact Nat.le_of_lt (small1000 (by omega))) hD ?_ ?_
    · rintro i x H1 R hx s1 _ hq
      obtain ⟨A0, hA1, rfl⟩ := of_map hx
      obtain ⟨ws, hw1, hw2⟩ := paired_get hT hA1
      have hwm := List.mem_of_getElem? hw1
      have s01 := s0.trans s1
      refine ⟨wk1 rfl, ?_⟩
      refine ⟨_, rfl, _, rfl, A0, p, true, true, ws, r.1, rfl, s01.seqB (SqT.of hw2), s01.seqT hr3, by rw [hO.cnt r hrm]; have := hO.few; omega, by have := hW.len ws hwm; omega, fun w hw => (small_bits9 (w := w) (by have := hW.low ws hwm w hw; omega)).mono (by decide), hO.bits hrm (by decide), fun H2 s2 => hq _ H2 s2 fun ws2 hw2 => ?_⟩
      rw [hw1] at hw2; cases hw2; rfl
    rintro zs H1 s1 hD1 hz1 hz2
    rw [List.length_map, hbl] at hz1
    have ez : zs = (pdS wss r.1).map V.int := by
      unfold pdS
      rw [List.map_map]
      exact ys_map hz1 fun j y r h1 h2 => hz2 j y h1 r h2
    subst ez
    have hpl : (pdS wss r.1).length = wss.length := by unfold pdS; rw [List.length_map]
    have hl : n < (pdS wss r.1).length := by omega
    have hF1 := s1 _ _ hF
    generalize hps : pdS wss r.1 = ps at *
    have atj : atI (ps.map V.int) r.2 = some (.int (ps[n])) := at_k (k := n) (by rw [List.getElem?_map, List.getElem?_eq_getElem hl]; rfl) en
    refine ⟨_, rfl, _, rfl, _, rfl, r.2, rfl, D, _, rfl, SqL.of hD1, fun p1 hp1 => ?_⟩
    rw [cut_map, cutI_to _ (by omega) (by omega)]
    have e0 : r.2.toNat = n := by omega
    rw [e0]
    have s3 := Same.new hp1 (.lst ((ps.take n).map V.int))
    refine ⟨_, rfl, _, rfl, _, _, rfl, rfl, r.2 + 1, rfl, D, _, rfl, SqL.of (s3 _ _ hD1), fun p2 hp2 => ?_⟩
    rw [cut_map, cutI_from _ (by omega) (by omega)]
    have e1 : (r.2 + 1).toNat = n + 1 := by omega
    rw [e1]
    have s4 := Same.new hp2 (.lst ((ps.drop (n + 1)).map V.int))
    refine ⟨p1, p2, _, _, rfl, rfl, s4 _ _ upd_same, upd_same, by rw [List.length_map, List.length_map, List.length_take, List.length_drop]; exact Nat.le_of_lt (small1000 (by omega)), fun p3 hp3 => ?_⟩
    have eo : (ps.take n).map V.int ++ (ps.drop (n + 1)).map V.int = (othS ps n).map V.int := by unfold othS; rw [List.map_append]
    rw [eo]
    have s5 := Same.new hp3 (.lst ((othS ps n).map V.int))
    have s35 := s3.trans (s4.trans s5)
    have hp3' : upd (upd (upd H1 p1 (.lst ((ps.take n).map V.int))) p2 (.lst ((ps.drop (n + 1)).map V.int))) p3 (.lst ((othS ps n).map V.int)) p3 = some (.lst ((othS ps n).map V.int)) := upd_same
    generalize upd (upd (upd H1 p1 (.lst ((ps.take n).map V.int))) p2 (.lst ((ps.drop (n + 1)).map V.int))) p3 (.lst ((othS ps n).map V.int)) = H5 at *
    refine ⟨p3, rfl, ⟨_, SqL.of hp3'⟩, fun D2 hD2 => ?_⟩
    refine comp_list_rel (xs := (othS ps n).map V.int) (fun _ i y => ∀ o, (othS ps n)[i]? = some o → y = .int (ps[n] - o)) (fun _ _ _ _ _ h => h) (SqL.of hp3') (by rw [List.length_map]; have := oth_len (ps := ps) (s := n); exact Nat.le_of_lt (small1000 (by omega))) hD2 ?_ ?_
    · rintro i x H6 R hx s6 _ hq
      obtain ⟨o, ho, rfl⟩ := of_map hx
      refine ⟨⟨rfl, ?_⟩, ?_⟩
      · intro k v ek
        match k, ek with
        | 1, ek => exact ek
        | 2, ek => exact ek
        | 0, ek => simp [carry] at ek
        | k + 3, ek => simp [carry] at ek
      refine ⟨_, rfl, _, rfl, D, _, _, _, rfl, rfl, SqL.of (s6 _ _ (s35 _ _ hD1)), atj, _, rfl, _, _, rfl, rfl, hq _ H6 (Same.refl _) fun o2 ho2 => ?_⟩
      rw [ho] at ho2; cases ho2; rfl
    rintro zs H6 s6 hD6 hz3 hz4
    rw [List.length_map] at hz3
    have ez : zs = ((othS ps n).map fun o => ps.getD n 0 - o).map V.int := by
      rw [List.map_map]
      refine ys_map hz3 fun j y r h1 h2 => ?_
      rw [hz4 j y h1 r h2]
      have : ps.getD n 0 = ps[n] := by rw [List.getD_eq_getElem?_getD, List.getElem?_eq_getElem hl]; rfl
      rw [← this]; rfl
    subst ez
    have hF6 := s6 _ _ (s35 _ _ hF1)
    have hdl := difs_len hW (rs.take i)
    have hol := oth_len (ps := ps) (s := n)
    have hrl := hO.len
    refine ⟨F0, D2, _, _, rfl, rfl, hF6, hD6, by rw [List.length_map, List.length_map, List.length_map]; rw [List.length_take] at hdl; exact Nat.le_trans (by omega) (Nat.le_of_lt (small1000 (n := 1000) (by omega))) , fun p7 hp7 => ?_⟩
    refine ⟨p7, _, _, _, rfl, s0.trans (s1.trans (s35.trans (s6.trans (Same.new hp7 _)))), ?_⟩
    rw [upd_same, take_snoc hr1, difs_snoc, hps, e0, List.map_append]
  · rintro σ H0 ⟨F0, v3, v4, v5, rfl, s0, hF⟩
    rw [List.length_map, hal, List.take_length] at hF
    have hpos : 0 < (difs wss rs).length := by
      cases rs with
      | nil => exact absurd rfl hne
      | cons r t =>
        have hs := hin r (List.mem_cons_self ..)
        have hs1 := hs.1
        have hs2 := hs.2
        have := oth_ne (pt := r.1) (s := r.2.toNat) hW (by omega)
        unfold difs
        rw [List.flatMap_cons, List.length_append, List.length_map]
        omega
    refine ⟨_, rfl, F0, difs wss rs, rfl, SqL.of hF, hpos, fun z hz1 hz2 => ?_⟩
    obtain ⟨g1, g2⟩ := least_is hW hin hz1 hz2
    exact q z H0 s0 g1 g2
end
end Mw
namespace Mw
open PySem L2
section
variable {P : Program} {w : World} {K : PySem.W.Frag} {mg : Str → Option Value} {base : Heap} {f : Addr} {fd : FuncData} {X_MendError X_NoSide X_NotParted X_NoFraction X_NoPoint X_NoRow X_NoTable X_NoText X_OneSide X_TooMany X_WrongBook : Addr}
theorem sc__law_several : FnScope ["_law_points_here", "_law_weights", "_law_head", "_law_rows", "_law_gaps", "_law_at", "_law_bad", "_law_bent", "_law_far", "_law_square_of"] ["_law_points_here", "_law_weights", "_law_head"] (defScope (top 44)) := ⟨rfl, rfl, rfl, by decide +kernel, rfl, by decide +kernel, by decide +kernel⟩
theorem ok__law_several (F : Fun K "_law_several" "_law_several" (top 44) f fd) (T : Txt BN mg) (c__law_best : Cal P w K mg base 3 "_law_best" ["_law_weights", "_law_point"] (spBest K)) (c__law_no_side : Cal P w K mg base 8 "_law_no_side" ["_law_rows", "_law_weights", "_law_head"] (spNoSide K)) (c__law_is : Cal P w K mg base 1 "_law_is" ["_law_found", "_law_due"] spIs) (c__law_least : Cal P w K mg base 3 "_law_least" ["_law_rows", "_law_weights"] (spLeast K)) (c__law_not_parted : Cal P w K mg base 8 "_law_not_parted" ["_law_rows", "_law_weights", "_law_several_here"] (spNotP K X_NotParted X_NoSide)) (c_sides_gap : CalX P w K mg base 4 "sides_gap" ["rows", "weights"] (spSGap K X_NoSide)) (c_sides_bound : CalX P w K mg base 5 "sides_bound" ["rows", "weights"] (spSBnd K X_NotParted X_NoSide)) : FnOk P w K mg base CX0 9 f fd ["_law_points_here", "_law_weights", "_law_head"] (spSev K) := by
  refine F.ok sc__law_several (fun vs H Q E h => ?_) (fun cdv A outer s H vs Q E hr h => ?_)
  · obtain ⟨a, b, as, bs, m, pts, wss, hd, rfl, _⟩ := h
    rfl
  obtain ⟨a, b, as, bs, m, pts, wss, hd, rfl, hA, hPt, hm0, hm4, hp90, hpc, hpl, hB, hT, hW, hwl, hd0, hd1, q⟩ := h
  refine ⟨_, (pss_cons (ps_comp (i := 3) sc__law_several.nd rfl rfl (sc := defScope (top 44)) (N := ["_law_points_here", "_law_weights", "_law_head", "_law_rows", "_law_gaps", "_law_at", "_law_bad", "_law_bent", "_law_far", "_law_square_of"]) (NB := ["_law_point", "_law_weights"]) (fr := [none, some 1]) rfl (by decide +kernel) (pi_list (pv 0)) (fun _ _ _ _ => (pg_name (i := 0) (show (["_law_point", "_law_weights"] : List Str).Nodup by decide +kernel) rfl (Or.inl rfl))) (fun _ _ _ _ => .nil) (fun _ _ _ _ => (pe_tup (pa_cons (pv 0) (pa_cons (pe_ix (ix_listK (K := K) rfl) (pe_cal c__law_best (hr.mono (by decide)) rfl (pa_cons (pv 1) (pa_cons (pv 0) pa_nil))) pe_int (fun _ _ => rfl)) pa_nil)))))
      (pss_cons (ps_if (pt_not (pt_val (pe_cal c__law_no_side (hr.mono (by decide)) rfl (pa_cons (pv 3) (pa_cons (pv 1) (pa_cons (pv 2) pa_nil)))))) (pss_one (ps_ret pe_bl)) pss_nil)
      (pss_cons (ps_comp (i := 4) sc__law_several.nd rfl rfl (sc := defScope (top 44)) (N := ["_law_points_here", "_law_weights", "_law_head", "_law_rows", "_law_gaps", "_law_at", "_law_bad", "_law_bent", "_law_far", "_law_square_of"]) (NB := ["_law_point", "_law_weights"]) (fr := [none, some 1]) rfl (by decide +kernel) (pi_list (pv 0)) (fun _ _ _ _ => (pg_name (i := 0) (show (["_law_point", "_law_weights"] : List Str).Nodup by decide +kernel) rfl (Or.inl rfl))) (fun _ _ _ _ => .nil) (fun _ _ _ _ => (pe_ix (ix_listK (K := K) rfl) (pe_cal c__law_best (hr.mono (by decide)) rfl (pa_cons (pv 1) (pa_cons (pv 0) pa_nil))) pe_int (fun _ _ => rfl))))
      (pss_cons (ps_join (ps_if (PW.pt (pw_and (pt_cmpR op_eq (pe_op op_mod (pe_op op_fdivP (pv 2) pe_int) pe_int) pe_int (nomark _)) (pw_and1 (pt_cmpR (op_neNil (K := K) rfl hr.units0) (pv 3) (pe_lst pa_nil) (nomark _))))) (pss_cons (ps_join (ps_set (i := 5) sc__law_several.nd rfl (Or.inl rfl) (pe_op op_mod (pe_op op_fdivP (pv 2) pe_int) (pe_callB (call_lenK (K := K) rfl) rfl (T.nb "len" (by decide)) (by decide +kernel) (pa_cons (pv 3) pa_nil)))))
      (pss_cons (ps_join (ps_set (i := 6) sc__law_several.nd rfl (Or.inl rfl) (pe_tup (pa_cons (pe_ix (ix_tupK (K := K) rfl) (pe_ix (ix_listK (K := K) rfl) (pv 3) (pv 5) (fun _ _ => rfl)) pe_int (fun _ _ => rfl)) (pa_cons (pe_op op_mod (pe_op op_add (pe_op op_add (pe_ix (ix_tupK (K := K) rfl) (pe_ix (ix_listK (K := K) rfl) (pv 3) (pv 5) (fun _ _ => rfl)) pe_int (fun _ _ => rfl)) pe_int) (pe_op op_mod (pe_op op_fdivP (pv 2) pe_int) (pe_op op_sub (pe_callB (call_lenK (K := K) rfl) rfl (T.nb "len" (by decide)) (by decide +kernel) (pa_cons (pv 1) pa_nil)) pe_int))) (pe_callB (call_lenK (K := K) rfl) rfl (T.nb "len" (by decide)) (by decide +kernel) (pa_cons (pv 1) pa_nil))) pa_nil)))))
      (pss_cons (ps_join (ps_set (i := 7) sc__law_several.nd rfl (Or.inl rfl) (pe_op op_cat (pe_op op_cat (pe_slice (sl_listK (K := K) rfl) (pv 3) po_none (po_some (pv 5))) (pe_lst (pa_cons (pv 6) pa_nil))) (pe_slice (sl_listK (K := K) rfl) (pv 3) (po_some (pe_op op_add (pv 5) pe_int)) po_none))))
      (pss_cons (ps_if (pt_not (pt_val (pe_cal c__law_is (hr.mono (by decide)) rfl (pa_cons (pe_calG c_sides_gap (hr.mono (by decide)) rfl passG_never (pa_cons (pv 7) (pa_cons (pv 1) pa_nil))) (pa_cons (pe_cal c__law_least (hr.mono (by decide)) rfl (pa_cons (pv 7) (pa_cons (pv 1) pa_nil))) pa_nil))))) (pss_one (ps_ret pe_bl)) pss_nil)
      (pss_one (ps_ret (pe_cal c__law_not_parted (hr.mono (by decide)) rfl (pa_cons (pv 7) (pa_cons (pv 1) (pa_cons pe_bl pa_nil)))))))))) pss_nil))
      (pss_cons (ps_if (pt_cmpR (op_eqNil (K := K) rfl hr.units0) (pv 3) (pe_lst pa_nil) (nomark _)) (pss_one (ps_ret (pe_cal c__law_is (hr.mono (by decide)) rfl (pa_cons (pe_calG c_sides_bound (hr.mono (by decide)) rfl passG_never (pa_cons (pe_lst pa_nil) (pa_cons (pv 1) pa_nil))) (pa_cons pe_int pa_nil))))) pss_nil)
      (pss_cons (ps_if (pt_not (pt_val (pe_cal c__law_is (hr.mono (by decide)) rfl (pa_cons (pe_calG c_sides_gap (hr.mono (by decide)) rfl passG_never (pa_cons (pv 3) (pa_cons (pv 1) pa_nil))) (pa_cons (pe_callB (call_minL rfl) rfl (T.nb "min" (by decide)) (by decide +kernel) (pa_cons (pv 4) pa_nil)) pa_nil))))) (pss_one (ps_ret pe_bl)) pss_nil)
      (pss_cons (ps_if (pt_cmpR op_eq (pe_callB (call_minL rfl) rfl (T.nb "min" (by decide)) (by decide +kernel) (pa_cons (pv 4) pa_nil)) pe_int (nomark _)) (pss_one (ps_ret (pe_cal c__law_not_parted (hr.mono (by decide)) rfl (pa_cons (pv 3) (pa_cons (pv 1) (pa_cons pe_bl pa_nil)))))) pss_nil)
      (pss_cons (ps_join (ps_set (i := 8) sc__law_several.nd rfl (Or.inl rfl) (pe_callB (call_maxL rfl) rfl (T.nb "max" (by decide)) (by decide +kernel) (pa_cons (pe_comp (sc := defScope (top 44)) (N := ["_law_points_here", "_law_weights", "_law_head", "_law_rows", "_law_gaps", "_law_at", "_law_bad", "_law_bent", "_law_far", "_law_square_of"]) (NB := ["_law_point"]) (fr := [none]) rfl (by decide +kernel) (pi_list (pv 0)) (fun _ _ _ _ => (pg_name (i := 0) (show (["_law_point"] : List Str).Nodup by decide +kernel) rfl (Or.inl rfl))) (fun _ _ _ _ => .nil) (fun _ _ _ _ => (pe_op op_add (pe_callB (call_sumK (K := K) rfl rfl) rfl (T.nb "sum" (by decide)) (by decide +kernel) (pa_cons (pe_compN (NB := ["_law_number"]) (fr := [none]) rfl (of_decide_eq_true (by kernel_rfl)) (pi_tupK (K := K) rfl (pv 0)) (fun _ _ _ _ => (pg_name (i := 0) (show (["_law_number"] : List Str).Nodup by decide +kernel) rfl (Or.inl rfl))) (fun _ _ _ _ => .nil) (fun _ _ _ _ => (pe_op op_mulB (pv 0) (pv 0)))) pa_nil)) pe_int))) pa_nil))))
      (pss_cons (ps_join (ps_set (i := 9) sc__law_several.nd rfl (Or.inl rfl) (pe_callB (call_sumI rfl) rfl (T.nb "sum" (by decide)) (by decide +kernel) (pa_cons (pe_comp (sc := defScope (top 44)) (N := ["_law_points_here", "_law_weights", "_law_head", "_law_rows", "_law_gaps", "_law_at", "_law_bad", "_law_bent", "_law_far", "_law_square_of"]) (NB := ["_law_one"]) (fr := [none]) rfl (by decide +kernel) (pi_tup (pv 1)) (fun _ _ _ _ => (pg_name (i := 0) (show (["_law_one"] : List Str).Nodup by decide +kernel) rfl (Or.inl rfl))) (fun _ _ _ _ => .nil) (fun _ _ _ _ => (pe_callB (call_sumK (K := K) rfl rfl) rfl (T.nb "sum" (by decide)) (by decide +kernel) (pa_cons (pe_compN (NB := ["_law_number"]) (fr := [none]) rfl (of_decide_eq_true (by kernel_rfl)) (pi_tupK (K := K) rfl (pv 0)) (fun _ _ _ _ => (pg_name (i := 0) (show (["_law_number"] : List Str).Nodup by decide +kernel) rfl (Or.inl rfl))) (fun _ _ _ _ => .nil) (fun _ _ _ _ => (pe_op op_mulB (pv 0) (pv 0)))) pa_nil)))) pa_nil))))
      (pss_one (ps_ret (pe_cal c__law_is (hr.mono (by decide)) rfl (pa_cons (pe_calG c_sides_bound (hr.mono (by decide)) rfl passG_never (pa_cons (pv 3) (pa_cons (pv 1) pa_nil))) (pa_cons (pe_op op_fdivP (pe_op op_mulB (pe_op op_mulB pe_int (pv 8)) (pv 9)) (pe_op op_mulB (pe_callB (call_minL rfl) rfl (T.nb "min" (by decide)) (by decide +kernel) (pa_cons (pv 4) pa_nil)) (pe_callB (call_minL rfl) rfl (T.nb "min" (by decide)) (by decide +kernel) (pa_cons (pv 4) pa_nil)))) pa_nil)))))))))))))), ?_⟩
  have hal : as.length = pts.length := Paired.length hPt
  have hbl : bs.length = wss.length := Paired.length hT
  have hw5 := hW.few
  have hw2 := hW.two
  refine ⟨_, rfl, a, rfl, ⟨_, hA⟩, fun D hD => ?_⟩
  refine comp_list_rel (xs := as.map V.ref) (fun H' i y => ∃ t, y = .ref t ∧ t ≠ D ∧ ∃ pa xs, as[i]? = some pa ∧ pts[i]? = some xs ∧ H' t = some (.tup [.ref pa, .int (bst wss xs : Nat)])) (fun H H' i y o ⟨t, e, n, pa, xs, e1, e2, e3⟩ => ⟨t, e, n, pa, xs, e1, e2, o t _ n e3⟩) hA (by rw [List.length_map, hal]; exact Nat.le_of_lt (small1000 (by omega))) hD ?_ ?_
  · rintro i x H1 R hx s1 hDn hq
    obtain ⟨pa, hpa, rfl⟩ := of_map hx
    obtain ⟨xs, hxs, hxq⟩ := paired_get hPt hpa
    have hxm := List.mem_of_getElem? hxs
    refine ⟨wk1 rfl, ?_⟩
    refine ⟨_, rfl, _, rfl, _, rfl, b, pa, bs, xs, wss, rfl, s1.seqT hxq, by rw [hpc xs hxm]; exact hm4, hpl xs hxm, s1.seqT hB, hT.same s1, hW, fun r H2 s2 hr0 hR2 => ?_⟩
    refine ⟨r, _, _, _, rfl, rfl, SqL.of hR2, at_k (k := 0) rfl rfl, (by show 2 ≤ sizeLine; decide), fun pt hpt => ?_⟩
    refine hq _ _ (s2.trans (Same.new hpt _)) ⟨pt, rfl, ?_, pa, xs, hpa, hxs, upd_same⟩
    intro z
    cases e : H1 D with
    | none => exact hDn e
    | some o => rw [z, s2 _ _ e] at hpt; cases hpt
  rintro ys H1 s1 hD1 hy1 hy2
  rw [List.length_map, hal] at hy1
  have hPt1 : PtsAt K H1 as pts := Paired.mapP hPt fun _ _ h => s1.seqT h
  obtain ⟨ts, ets, hRows⟩ := rows_of (K := K) (H := H1) (ys := ys) (rs := rowsB wss pts) (by unfold rowsB; rw [List.length_map]; exact hy1) (fun j y r h1 h2 => by
    obtain ⟨t, e, _, pa, xs, e1, e2, e3⟩ := hy2 j y h1
    unfold rowsB at h2
    rw [List.getElem?_map, e2] at h2
    cases h2
    obtain ⟨xs2, h3, h4⟩ := paired_get hPt1 e1
    rw [e2] at h3
    cases h3
    exact ⟨t, pa, e, SqT.of e3, h4⟩)
  subst ets
  have hO := rowsB_p hW hm0 hm4 hp90 hpc hpl
  have hin := rowsB_in (pts := pts) hW
  have hrl : (rowsB wss pts).length = pts.length := by unfold rowsB; rw [List.length_map]
  have htl : ts.length = (rowsB wss pts).length := Paired.length hRows
  have hgB := gapsB (wss := wss) (pts := pts)
  have hsB := sqB (wss := wss) (pts := pts)
  have hfar : ∀ f, f ∈ (rowsB wss pts).map sqP → (∀ b ∈ (rowsB wss pts).map sqP, b ≤ f) → f = farF (rowsB wss pts) := fun f h1 h2 => far_is (m := m) h1 h2
  have hgap : ∀ r ∈ rowsB wss pts, ∃ xs, r = (xs, ((bst wss xs : Nat) : Int)) := fun r hr => by
    obtain ⟨xs, _, rfl⟩ := List.mem_map.mp hr
    exact ⟨xs, rfl⟩
  have hg0 : ∀ z ∈ gapsS wss (rowsB wss pts), 0 ≤ z := fun z hz => by
    rw [hgB] at hz
    obtain ⟨xs, _, rfl⟩ := List.mem_map.mp hz
    exact best_gap hW
  have hga : ∀ z ∈ gapsS wss (rowsB wss pts), z.natAbs ≤ 20000000 := fun z hz => by
    rw [hgB] at hz
    obtain ⟨xs, hx, rfl⟩ := List.mem_map.mp hz
    exact rgap_abs hW (hpl xs hx) (best_lt hW)
  generalize hrs : rowsB wss pts = rs at *
  -- rows with a side beyond
  refine ⟨_, rfl, _, rfl, _, rfl, D, b, ts, bs, m, rs, wss, hd, rfl, SqL.of hD1, hRows, hO, by omega, s1.seqT hB, hT.same s1, hW, hwl, hd0, hd1, fun H2 s2 => ?_⟩
  refine ⟨_, rfl, ?_⟩
  refine iteF ?_
  have s12 := s1.trans s2
  -- the gaps
  refine ⟨_, rfl, a, rfl, ⟨_, s12.seq hA⟩, fun D2 hD2 => ?_⟩
  refine comp_list_rel (xs := as.map V.ref) (fun _ i y => ∀ xs, pts[i]? = some xs → y = .int (rgap wss xs (bst wss xs))) (fun _ _ _ _ _ h => h) (s12.seq hA) (by rw [List.length_map, hal]; exact Nat.le_of_lt (small1000 (by omega))) hD2 ?_ ?_
  · rintro i x H3 R hx s3 hDn hq
    obtain ⟨pa, hpa, rfl⟩ := of_map hx
    obtain ⟨xs, hxs, hxq⟩ := paired_get hPt hpa
    have hxm := List.mem_of_getElem? hxs
    have s13 := s12.trans s3
    refine ⟨wk1 rfl, ?_⟩
    refine ⟨_, rfl, _, rfl, b, pa, bs, xs, wss, rfl, s13.seqT hxq, by rw [hpc xs hxm]; exact hm4, hpl xs hxm, s13.seqT hB, hT.same s13, hW, fun r H4 s4 hr0 hR4 => ?_⟩
    refine ⟨r, _, _, _, rfl, rfl, SqL.of hR4, at_k (k := 1) rfl rfl, ?_⟩
    refine hq _ _ s4 fun xs2 h2 => ?_
    rw [hxs] at h2; cases h2; rfl
  rintro zs H3 s3 hD3 hz1 hz2
  rw [List.length_map, hal] at hz1
  have ez : zs = (gapsS wss rs).map V.int := by
    rw [hgB, List.map_map]
    exact ys_map hz1 fun j y r h1 h2 => hz2 j y h1 r h2
  subst ez
  have s13 := s12.trans s3
  have hD13 := s3 _ _ (s2 _ _ hD1)
  have hR3 := hRows.same (s2.trans s3)
  have hB3 := s13.seqT hB
  have hT3 := hT.same s13
  -- one row's side another one
  refine ⟨fun σ H' => σ = [some (.ref a), some (.ref b), some (.int hd), some (.ref D), some (.ref D2), none, none, none, none, none] ∧ Same H3 H', ?_, ?_⟩
  · refine ⟨_, rfl, _, _, rfl, rfl, div64 (by decide) (by decide), _, _, rfl, rfl, (by show (0 : Int) < 3; decide), rfl, _, rfl, ?_⟩
    refine iteD (fun _ => ?_) (fun _ => ?_)
    rotate_left
    · refine iteF ?_
      exact ⟨rfl, Same.refl _⟩
    refine ⟨_, rfl, (by show 0 ≤ sizeLine; decide), fun p0 hp0 => ?_⟩
    have s4 := Same.new hp0 (.lst [])
    have hP0 : upd H3 p0 (.lst []) p0 = some (.lst []) := upd_same
    generalize upd H3 p0 (.lst []) = H4 at *
    refine ⟨D, p0, _, rfl, rfl, SqL.of (s4 _ _ hD13), SqL.of hP0, fun _ => ⟨_, rfl, ?_⟩, fun hne => ⟨_, rfl, ?_⟩⟩
    · refine iteF ?_
      exact ⟨rfl, s4⟩
    refine iteT ?_
    have hne2 : rs ≠ [] := fun z => hne (by rw [List.length_eq_zero_iff.mp (by rw [htl, z]; rfl : ts.length = 0)]; rfl)
    have hlen := List.length_pos_iff.mpr hne2
    have s14 := s13.trans s4
    refine ⟨fun σ H' => ∃ k : Nat, k < rs.length ∧ σ = [some (.ref a), some (.ref b), some (.int hd), some (.ref D), some (.ref D2), some (.int k), none, none, none, none] ∧ H' = H4, ?_, ?_⟩
    · refine ⟨_, rfl, _, _, rfl, rfl, div64 (by decide) (by decide), _, rfl, D, _, rfl, .inl (SqL.of (s4 _ _ hD13)), _, _, rfl, rfl, (by show (0 : Int) < ((ts.map V.ref).length : Int); rw [List.length_map]; omega), ?_⟩
      have h0 := Int.emod_nonneg (hd / 24) (b := (rs.length : Int)) (by omega)
      have h1 := Int.emod_lt_of_pos (hd / 24) (b := (rs.length : Int)) (by omega)
      refine ⟨(hd / 24 % (rs.length : Int)).toNat, by omega, ?_, rfl⟩
      show [some (V.ref a), some (.ref b), some (.int hd), some (.ref D), some (.ref D2), some (.int (hd / 24 % ((ts.map V.ref).length : Int))), none, none, none, none] = _
      rw [List.length_map, htl, Int.toNat_of_nonneg h0]
    rintro σ H4 ⟨k, hk, rfl, rfl⟩
    obtain ⟨A0, hA0⟩ : ∃ A0, ts[k]? = some A0 := ⟨ts[k], List.getElem?_eq_getElem (by omega)⟩
    obtain ⟨r, hr1, p, hr2, hr3⟩ := paired_get hR3 hA0
    have hrm := List.mem_of_getElem? hr1
    obtain ⟨xr, exr⟩ := hgap r hrm
    have hrin := hin r hrm
    have hat1 : atI (ts.map V.ref) (k : Int) = some (.ref A0) := at_k (k := k) (by rw [List.getElem?_map, hA0]; rfl) rfl
    have hat2 : atI [V.ref p, .int r.2] 0 = some (.ref p) := at_k (k := 0) rfl rfl
    have hat3 : atI [V.ref p, .int r.2] 1 = some (.int r.2) := at_k (k := 1) rfl rfl
    have hD14 := s4 _ _ hD13
    refine ⟨fun σ H' => ∃ (t : Addr) (ns : Int), InS wss.length ns ∧ ns ≠ r.2 ∧ σ = [some (.ref a), some (.ref b), some (.int hd), some (.ref D), some (.ref D2), some (.int k), some (.ref t), none, none, none] ∧ Same H4 H' ∧ H' t = some (.tup [.ref p, .int ns]), ?_, ?_⟩
    · have hx0 := Int.emod_nonneg (hd / 240) (b := (wss.length : Int) - 1) (by omega)
      have hx1 := Int.emod_lt_of_pos (hd / 240) (b := (wss.length : Int) - 1) (by omega)
      have ht := turn_side (y := 1 + hd / 240 % ((wss.length : Int) - 1)) hrin.1 hrin.2 (by omega) (by omega)
      refine ⟨_, rfl, _, rfl, D, _, _, _, rfl, rfl, SqL.of hD14, hat1, A0, _, _, _, rfl, rfl, s4.seqT hr2, hat2, _, rfl, _, rfl, D, _, _, _, rfl, rfl, SqL.of hD14, hat1, A0, _, _, _, rfl, rfl, s4.seqT hr2, hat3, _, _, rfl, rfl, _, rfl, _, _, rfl, rfl, div64 (by decide) (by decide), _, rfl, b, _, rfl, .inr (s4.seqT hB3), _, _, rfl, rfl, _, _, rfl, rfl, (by show (0 : Int) < ((bs.map V.ref).length : Int) - 1; rw [List.length_map, hbl]; omega), _, _, rfl, rfl, _, rfl, b, _, rfl, .inr (s4.seqT hB3), _, _, rfl, rfl, (by show (0 : Int) < ((bs.map V.ref).length : Int); rw [List.length_map, hbl]; omega), (by show 2 ≤ sizeLine; decide), fun t ht0 => ?_⟩
      refine ⟨t, (r.2 + (1 + hd / 240 % ((wss.length : Int) - 1))) % (wss.length : Int), ⟨ht.1, ht.2.1⟩, ht.2.2, rfl, Same.new ht0 _, ?_⟩
      rw [upd_same]
      show some (HO.tup [.ref p, .int ((r.2 + 1 + hd / 240 % (((bs.map V.ref).length : Int) - 1)) % ((bs.map V.ref).length : Int))]) = _
      rw [List.length_map, hbl, Int.add_assoc]
    rintro σ H5 ⟨t, ns, hns1, hns2, rfl, s5, hT5⟩
    have s15 := s14.trans s5
    refine ⟨fun σ H' => ∃ (c : Addr) (as' : List Addr) (rs' : List (List Int × Int)), σ = [some (.ref a), some (.ref b), some (.int hd), some (.ref D), some (.ref D2), some (.int k), some (.ref t), some (.ref c), none, none] ∧ Same H5 H' ∧ H' c = some (.lst (as'.map V.ref)) ∧ RowsAt K H' as' rs' ∧ RowsP m rs' ∧ rs'.length ≤ 90 ∧ (∀ r ∈ rs', InS wss.length r.2) ∧ ∃ r ∈ rs', rgap wss r.1 r.2.toNat ≤ 0, ?_, ?_⟩
    · have hD15 := s5 _ _ hD14
      refine ⟨_, rfl, _, rfl, (k : Int), rfl, D, _, rfl, SqL.of hD15, fun p1 hp1 => ?_⟩
      rw [cutL_map, cutL_to ts (by omega) (by omega), Int.toNat_natCast]
      have s6 := Same.new hp1 (.lst ((ts.take k).map V.ref))
      have hP1 : upd H5 p1 (.lst ((ts.take k).map V.ref)) p1 = some (.lst ((ts.take k).map V.ref)) := upd_same
      generalize upd H5 p1 (.lst ((ts.take k).map V.ref)) = H6 at *
      refine ⟨_, rfl, (by show 1 ≤ sizeLine; decide), fun L0 hL0 => ?_⟩
      have s7 := Same.new hL0 (.lst [.ref t])
      refine ⟨p1, L0, _, _, rfl, rfl, s7 _ _ hP1, upd_same, by rw [List.length_map, List.length_take]; exact Nat.le_of_lt (small1000 (by show min k ts.length + 1 ≤ 1000; omega)), fun p2 hp2 => ?_⟩
      have s8 := Same.new hp2 (.lst ((ts.take k).map V.ref ++ [.ref t]))
      have s58 := s6.trans (s7.trans s8)
      refine ⟨_, rfl, _, rfl, _, _, rfl, rfl, (k : Int) + 1, rfl, D, _, rfl, SqL.of (s58 _ _ hD15), fun p3 hp3 => ?_⟩
      rw [cutL_map, cutL_from ts (by omega) (by omega)]
      have ek : ((k : Int) + 1).toNat = k + 1 := by omega
      rw [ek]
      have s9 := Same.new hp3 (.lst ((ts.drop (k + 1)).map V.ref))
      refine ⟨p2, p3, _, _, rfl, rfl, s9 _ _ upd_same, upd_same, by rw [List.length_append, List.length_map, List.length_map, List.length_take, List.length_drop]; exact Nat.le_of_lt (small1000 (by show min k ts.length + 1 + (ts.length - (k + 1)) ≤ 1000; omega)), fun p4 hp4 => ?_⟩
      have sE := s58.trans (s9.trans (Same.new hp4 (.lst ((ts.take k).map V.ref ++ [.ref t] ++ (ts.drop (k + 1)).map V.ref))))
      have sF := s4.trans (s5.trans sE)
      refine ⟨p4, ts.take k ++ [t] ++ ts.drop (k + 1), rs.take k ++ [(r.1, ns)] ++ rs.drop (k + 1), rfl, sE, by rw [upd_same, List.map_append, List.map_append]; rfl, rows_mid (r := (r.1, ns)) k (k + 1) (hR3.same sF) (sE.seqT (SqT.of hT5)) (sF.seqT hr3), hO.mid (by omega) (hO.cnt r hrm) (hO.low r hrm) ?_, ?_, fun x hx => ?_, (r.1, ns), by simp, ?_⟩
      · exact (small_bits9 (w := ns) (by have := hns1.1; have := hns1.2; omega)).mono (by decide)
      · rw [List.length_append, List.length_append, List.length_take, List.length_drop, List.length_singleton]
        omega
      · rcases mem_mid hx with e | e
        · rw [e]; exact hns1
        · exact hin x e
      · have h1 := hns1.1
        have h2 := hns1.2
        refine bent_gap hW (by show ns.toNat < _; omega) ?_
        show ns.toNat ≠ bst wss r.1
        rw [exr] at hns2 ⊢
        have h3 : ns ≠ ((bst wss xr : Nat) : Int) := hns2
        show ns.toNat ≠ bst wss xr
        omega
    rintro σ H6 ⟨c, as', rs', rfl, s6, hC, hR', hO', hl', hin', r', hr', hle⟩
    have hne' : rs' ≠ [] := fun z => by rw [z] at hr'; simp at hr'
    have s16 := s15.trans s6
    refine ⟨_, rfl, _, rfl, c, b, as', bs, m, rs', wss, rfl, SqL.of hC, hR', hO', s16.seqT hB, hT.same s16, hW, fun r hr n => absurd (hin' r hr) n, fun _ => ⟨hne', fun z H7 s7 hz1 hz2 => ?_⟩⟩
    have s17 := s16.trans s7
    refine ⟨_, rfl, _, rfl, c, b, as', bs, m, rs', wss, rfl, SqL.of (s7 _ _ hC), hR'.same s7, hO', hne', hl', s17.seqT hB, hT.same s17, hW, hin', fun z2 H8 s8 hy1 hy2 => ?_⟩
    have ez : z2 = z := by
      have h1 := hy2 z hz1
      have h2 := hz2 z2 hy1
      omega
    subst ez
    refine ⟨z2, rfl, _, rfl, ?_⟩
    refine iteF ?_
    have s68 := s7.trans s8
    have s18 := s16.trans s68
    refine ⟨_, rfl, _, rfl, ⟨c, b, true, rfl, .inr ⟨rfl, fun Q' E' h => ⟨c, b, as', bs, m, rs', wss, rfl, SqL.of (s68 _ _ hC), hR'.same s68, hO', s18.seqT hB, hT.same s18, hW, fun n => absurd n hne', fun r hr n => absurd (hin' r hr) n, fun _ _ z3 H9 s9 h1 h2 => ⟨fun _ => h H9 s9, fun hp => ?_⟩⟩⟩, fun H9 s9 => q H9 (s18.trans s9)⟩⟩
    have := h2 (rgap wss r'.1 r'.2.toNat) (by unfold gapsS; exact List.mem_map.mpr ⟨r', hr', rfl⟩)
    omega
  rintro σ H4 ⟨rfl, s4⟩
  have s14 := s13.trans s4
  have hD14 := s4 _ _ hD13
  have hR4 := hR3.same s4
  -- no rows
  refine ⟨_, rfl, (by show 0 ≤ sizeLine; decide), fun p0 hp0 => ?_⟩
  have s5 := Same.new hp0 (.lst [])
  have hP0 : upd H4 p0 (.lst []) p0 = some (.lst []) := upd_same
  generalize upd H4 p0 (.lst []) = H5 at *
  have s15 := s14.trans s5
  refine ⟨D, p0, _, rfl, rfl, SqL.of (s5 _ _ hD14), SqL.of hP0, fun _ => ⟨_, rfl, ?_⟩, fun hne => ⟨_, rfl, ?_⟩⟩
  · refine iteT ?_
    refine ⟨(by show 0 ≤ sizeLine; decide), fun p1 hp1 => ?_⟩
    have s6 := Same.new hp1 (.lst [])
    have s16 := s15.trans s6
    refine ⟨_, rfl, p1, b, [], bs, m, [], wss, rfl, SqL.of upd_same, .nil, ⟨hm0, hm4, by simp, by simp, by simp, by simp⟩, s16.seqT hB, hT.same s16, hW, fun _ => ?_, fun r hr => (by simp at hr), fun _ n => absurd rfl n⟩
    exact ⟨0, rfl, q _ s16⟩
  refine iteF ?_
  have hne2 : rs ≠ [] := fun z => hne (by rw [List.length_eq_zero_iff.mp (by rw [htl, z]; rfl : ts.length = 0)]; rfl)
  have hlen := List.length_pos_iff.mpr hne2
  have hgl : 0 < (gapsS wss rs).length := by unfold gapsS; rw [List.length_map]; exact hlen
  have hD35 := s5 _ _ (s4 _ _ hD3)
  -- the gap
  refine ⟨_, rfl, _, rfl, D, b, ts, bs, m, rs, wss, rfl, SqL.of (s5 _ _ hD14), hR4.same s5, hO, s15.seqT hB, hT.same s15, hW, fun r hr n => absurd (hin r hr) n, fun _ => ⟨hne2, fun z H6 s6 hz3 hz4 => ?_⟩⟩
  have same_z : ∀ z2, z2 ∈ gapsS wss rs → (∀ b ∈ gapsS wss rs, z2 ≤ b) → z2 = z := fun z2 h1 h2 => by
    have a1 := h2 z hz3
    have a2 := hz4 z2 h1
    omega
  have hD36 := s6 _ _ hD35
  refine ⟨_, rfl, D2, gapsS wss rs, rfl, SqL.of hD36, hgl, fun z2 h1 h2 => ?_⟩
  have ez := same_z z2 h1 h2
  subst ez
  refine ⟨z2, rfl, _, rfl, ?_⟩
  refine iteF ?_
  have s16 := s15.trans s6
  have s56 := s5.trans s6
  refine ⟨_, rfl, D2, gapsS wss rs, rfl, SqL.of hD36, hgl, fun z3 h1 h2 => ?_⟩
  have ez := same_z z3 h1 h2
  subst ez
  refine ⟨rfl, _, rfl, ?_⟩
  refine iteD (fun hz => ?_) (fun hz => ?_)
  · have hz0 : z3 = 0 := by injection hz
    refine ⟨_, rfl, _, rfl, ⟨D, b, true, rfl, .inr ⟨rfl, fun Q' E' h => ⟨D, b, ts, bs, m, rs, wss, rfl, SqL.of (s56 _ _ hD14), hR4.same s56, hO, s16.seqT hB, hT.same s16, hW, fun n => absurd n hne2, fun r hr n => absurd (hin r hr) n, fun _ _ z4 H9 s9 h3 h4 => ⟨fun _ => h H9 s9, fun hp => ?_⟩⟩⟩, fun H9 s9 => q H9 (s16.trans s9)⟩⟩
    have := same_z z4 h3 h4
    omega
  have hz0 : 0 < z3 := by
    have h3 := hg0 z3 hz3
    have h4 : z3 ≠ 0 := fun e => hz (by rw [e])
    omega
  have hza := hga z3 hz3
  -- the farthest
  refine ⟨fun σ H' => σ = [some (.ref a), some (.ref b), some (.int hd), some (.ref D), some (.ref D2), none, none, none, some (.int (farF rs)), none] ∧ Same H6 H', ?_, ?_⟩
  · refine ⟨_, rfl, a, rfl, ⟨_, s16.seq hA⟩, fun D4 hD4 => ?_⟩
    refine comp_list_rel (xs := as.map V.ref) (fun _ i y => ∀ xs, pts[i]? = some xs → y = .int (dot (xs ++ [1]) (xs ++ [1]))) (fun _ _ _ _ _ h => h) (s16.seq hA) (by rw [List.length_map, hal]; exact Nat.le_of_lt (small1000 (by omega))) hD4 ?_ ?_
    · rintro i x H7 R hx s7 _ hq
      obtain ⟨pa, hpa, rfl⟩ := of_map hx
      obtain ⟨xs, hxs, hxq⟩ := paired_get hPt hpa
      have hxm := List.mem_of_getElem? hxs
      have s17 := s16.trans s7
      refine ⟨wk_none (n := 1) rfl, ?_⟩
      refine ⟨_, rfl, pa, rfl, ⟨_, s17.seqT hxq⟩, fun D5 hD5 => ?_⟩
      refine comp_tup_rel (xs := xs.map V.int) (fun _ i y => ∀ x, xs[i]? = some x → y = .int (x * x)) (fun _ _ _ _ _ h => h) (s17.seqT hxq) (by rw [List.length_map, hpc xs hxm]; exact Nat.le_of_lt (small1000 (by omega))) hD5 ?_ ?_
      · rintro j x H8 R2 hx3 s8 _ hq3
        obtain ⟨n, hn, rfl⟩ := of_map hx3
        have hb := hpl xs hxm n (List.mem_of_getElem? hn)
        refine ⟨wk_none (n := 1) rfl, ?_⟩
        refine ⟨_, rfl, _, rfl, _, _, rfl, rfl, mul64 (by omega) (by omega) (by omega) (by omega), ?_⟩
        refine hq3 _ H8 (Same.refl _) fun x2 hx2 => ?_
        rw [hn] at hx2
        cases hx2
        rfl
      rintro zs H8 s8 hD8 hy1 hy2
      rw [List.length_map] at hy1
      have ez : zs = (xs.map fun x => x * x).map V.int := by
        rw [List.map_map]
        exact ys_map hy1 fun j y r h1 h2 => hy2 j y h1 r h2
      subst ez
      refine ⟨D5, _, rfl, SqL.of hD8, _, _, rfl, rfl, ?_⟩
      refine hq _ H8 s8 fun xs2 hx2 => ?_
      rw [hxs] at hx2
      cases hx2
      have e1 : (xs.map fun x => x * x).sum = dot xs xs := by
        unfold dot
        rw [List.zipWith_self]
      show V.int ((xs.map fun x => x * x).sum + 1) = _
      rw [e1, dot_snoc _ _ _ _ rfl, Int.mul_one]
    rintro zs H7 s7 hD7 hy1 hy2
    rw [List.length_map, hal] at hy1
    have ez : zs = (rs.map sqP).map V.int := by
      rw [hsB, List.map_map]
      exact ys_map hy1 fun j y r h1 h2 => hy2 j y h1 r h2
    subst ez
    refine ⟨D4, rs.map sqP, rfl, SqL.of hD7, by rw [List.length_map]; exact hlen, fun f hf1 hf2 => ?_⟩
    have ef := hfar f hf1 hf2
    subst ef
    exact ⟨rfl, s7⟩
  rintro σ H7 ⟨rfl, s7⟩
  have s17 := s16.trans s7
  -- the squares
  refine ⟨fun σ H' => σ = [some (.ref a), some (.ref b), some (.int hd), some (.ref D), some (.ref D2), none, none, none, some (.int (farF rs)), some (.int (sqS wss))] ∧ Same H7 H', ?_, ?_⟩
  · refine ⟨_, rfl, b, rfl, ⟨_, s17.seqT hB⟩, fun D4 hD4 => ?_⟩
    refine comp_tup_rel (xs := bs.map V.ref) (fun _ i y => ∀ ws, wss[i]? = some ws → y = .int (dot ws ws)) (fun _ _ _ _ _ h => h) (s17.seqT hB) (by rw [List.length_map, hbl]; exact Nat.le_of_lt (small1000 (by omega))) hD4 ?_ ?_
    · rintro i x H8 R hx s8 _ hq
      obtain ⟨pa, hpa, rfl⟩ := of_map hx
      obtain ⟨ws, hws, hwq⟩ := paired_get hT hpa
      have hwm := List.mem_of_getElem? hws
      have s18 := s17.trans s8
      have hwq8 : SqT K H8 pa (ws.map V.int) := s18.seqT (SqT.of hwq)
      refine ⟨wk_none (n := 1) rfl, ?_⟩
      refine ⟨_, rfl, pa, rfl, ⟨_, hwq8⟩, fun D5 hD5 => ?_⟩
      refine comp_tup_rel (xs := ws.map V.int) (fun _ i y => ∀ x, ws[i]? = some x → y = .int (x * x)) (fun _ _ _ _ _ h => h) hwq8 (by rw [List.length_map, hwl ws hwm]; exact Nat.le_of_lt (small1000 (by omega))) hD5 ?_ ?_
      · rintro j x H9 R2 hx3 s9 _ hq3
        obtain ⟨n, hn, rfl⟩ := of_map hx3
        have hb := hW.low ws hwm n (List.mem_of_getElem? hn)
        refine ⟨wk_none (n := 1) rfl, ?_⟩
        refine ⟨_, rfl, _, rfl, _, _, rfl, rfl, mul64 (by omega) (by omega) (by omega) (by omega), ?_⟩
        refine hq3 _ H9 (Same.refl _) fun x2 hx2 => ?_
        rw [hn] at hx2
        cases hx2
        rfl
      rintro zs H9 s9 hD9 hy1 hy2
      rw [List.length_map] at hy1
      have ez : zs = (ws.map fun x => x * x).map V.int := by
        rw [List.map_map]
        exact ys_map hy1 fun j y r h1 h2 => hy2 j y h1 r h2
      subst ez
      refine ⟨D5, _, rfl, SqL.of hD9, ?_⟩
      refine hq _ H9 s9 fun xs2 hx2 => ?_
      rw [hws] at hx2
      cases hx2
      have e1 : (ws.map fun x => x * x).sum = dot ws ws := by
        unfold dot
        rw [List.zipWith_self]
      rw [e1]
    rintro zs H8 s8 hD8 hy1 hy2
    rw [List.length_map, hbl] at hy1
    have ez : zs = (wss.map fun ws => dot ws ws).map V.int := by
      rw [List.map_map]
      exact ys_map hy1 fun j y r h1 h2 => hy2 j y h1 r h2
    subst ez
    exact ⟨D4, _, rfl, SqL.of hD8, rfl, s8⟩
  rintro σ H8 ⟨rfl, s8⟩
  have s18 := s17.trans s8
  have s58 := s56.trans (s7.trans s8)
  have hD38 := s8 _ _ (s7 _ _ hD36)
  obtain ⟨f0, f1⟩ := far_abs hO.ok
  rw [far_sides] at f0 f1
  obtain ⟨w0, w1⟩ := sqS_abs hW
  refine ⟨_, rfl, _, rfl, D, b, ts, bs, m, rs, wss, rfl, SqL.of (s58 _ _ hD14), hR4.same s58, hO, s18.seqT hB, hT.same s18, hW, fun n => absurd n hne2, fun r hr n => absurd (hin r hr) n, fun _ _ z4 H9 s9 h3 h4 => ⟨fun hn => ?_, fun _ => ?_⟩⟩
  · have := same_z z4 h3 h4
    omega
  have ez := same_z z4 h3 h4
  subst ez
  have hD39 := s9 _ _ hD38
  have hgg : 0 < z4 * z4 := Int.mul_pos hz0 hz0
  have hggb : (z4 * z4).natAbs ≤ 20000000 * 20000000 := by rw [Int.natAbs_mul]; exact Nat.mul_le_mul hza hza
  refine ⟨_, rfl, _, _, rfl, rfl, mul64 (by decide) (by decide) (by omega) (by omega), _, rfl, _, _, rfl, rfl, mul64 (by omega) (by omega) (by omega) (by omega), _, rfl, D2, gapsS wss rs, rfl, SqL.of hD39, hgl, fun z5 h5 h6 => ?_⟩
  have ez := same_z z5 h5 h6
  subst ez
  refine ⟨_, rfl, D2, gapsS wss rs, rfl, SqL.of hD39, hgl, fun z6 h7 h8 => ?_⟩
  have ez := same_z z6 h7 h8
  subst ez
  refine ⟨_, _, rfl, rfl, mul64 (by omega) (by omega) (by omega) (by omega), _, _, rfl, rfl, ⟨hgg, bits_of_abs (by omega) (by decide)⟩, 2 * farF rs * sqS wss / (z6 * z6), rfl, ?_⟩
  exact q H9 (s18.trans s9)
end
end Mw
namespace Mw
open PySem L2
section
variable {P : Program} {w : World} {K : PySem.W.Frag} {mg : Str → Option Value} {base : Heap} {f : Addr} {fd : FuncData} {X_MendError X_NoSide X_NotParted X_NoFraction X_NoPoint X_NoRow X_NoTable X_NoText X_OneSide X_TooMany X_WrongBook : Addr}
theorem sc__law_doublings : FnScope ["_law_many", "_law_found"] ["_law_many"] (defScope (top 45)) := ⟨rfl, rfl, rfl, by decide +kernel, rfl, by decide +kernel, by decide +kernel⟩
theorem ok__law_doublings (F : Fun K "_law_doublings" "_law_doublings" (top 45) f fd) (T : Txt BN mg) : FnOk P w K mg base CX0 1 f fd ["_law_many"] spDoubl := by
  refine F.ok sc__law_doublings (fun vs H Q E h => ?_) (fun cdv A outer s H vs Q E hr h => ?_)
  · obtain ⟨n, rfl, _⟩ := h
    rfl
  obtain ⟨n, rfl, hn, q⟩ := h
  refine ⟨_, (pss_cons (ps_set (i := 1) sc__law_doublings.nd rfl (Or.inl rfl) pe_int)
      (pss_cons (ps_while PassesOwn.never (pt_cmpR op_lt (pe_op op_shl pe_int (pv 1)) (pv 0) (nomark _)) (pss_one (ps_set (i := 1) sc__law_doublings.nd rfl (Or.inl rfl) (pe_op op_add (pv 1) pe_int))))
      (pss_one (ps_ret (pv 1))))), ?_⟩
  refine while_by (fun σ H' => ∃ b : Nat, σ = [some (.int n), some (.int b)] ∧ H' = H ∧ b ≤ 4 ∧ ∀ j, j < b → 2 ^ j < n) (fun σ _ => match σ with | [_, some (.int b)] => (10 - b).toNat | _ => 0) ⟨0, rfl, rfl, by omega, fun j hj => by omega⟩ ?_ ?_
  · rintro σ H' ⟨b, rfl, rfl, hb, hj⟩
    refine ⟨_, rfl, _, _, rfl, rfl, ⟨by omega, by omega, by decide⟩, _, rfl, _, _, rfl, rfl, _, rfl, ?_⟩
    have e2 : (1 : Int) * 2 ^ ((b : Int)).toNat = ((2 ^ b : Nat) : Int) := by rw [Int.one_mul, Int.toNat_natCast, Int.natCast_pow]; rfl
    refine iteD (fun c => ?_) (fun c => ?_)
    · have c1 : (1 : Int) * 2 ^ ((b : Int)).toNat < (n : Int) := c
      rw [e2] at c1
      have c2 : 2 ^ b < n := by omega
      have hb3 : b < 4 := by
        by_cases z : b = 4
        · subst z; have : (2 : Nat) ^ 4 = 16 := by decide
          omega
        · omega
      refine ⟨_, rfl, _, _, rfl, rfl, ⟨b + 1, rfl, rfl, by omega, fun j h => ?_⟩, ?_⟩
      · by_cases z : j = b
        · subst z; exact c2
        · exact hj j (by omega)
      · show (10 - ((b : Int) + 1)).toNat < (10 - (b : Int)).toNat
        omega
    · have c1 : ¬ (1 : Int) * 2 ^ ((b : Int)).toNat < (n : Int) := c
      rw [e2] at c1
      have e3 := dblF_least hn hb (by omega) hj
      refine ⟨_, rfl, ?_⟩
      rw [e3]
      exact q
  · rintro σ H' Q1 Q2 hQ ⟨x1, y1, i, j, e1, e2, c1, x2, y2, i2, j2, e3, e4, b, e5, h⟩
    exact ⟨x1, y1, i, j, e1, e2, c1, x2, y2, i2, j2, e3, e4, b, e5, hQ _ _ h⟩
end
end Mw
namespace Mw
open PySem L2
section
variable {P : Program} {w : World} {K : PySem.W.Frag} {mg : Str → Option Value} {base : Heap} {f : Addr} {fd : FuncData} {X_MendError X_NoSide X_NotParted X_NoFraction X_NoPoint X_NoRow X_NoTable X_NoText X_OneSide X_TooMany X_WrongBook : Addr}
theorem sc_law : FnScope ["_law_script", "_law_head", "_law_many", "_law_size", "_law_reach", "_law_weights", "_law_rows", "_law_order", "_law_kept", "_law_sides", "_law_drawn_here", "_law_several_here", "_law_side", "_law_points_here", "_law_some", "_law_telling"] ["_law_script"] (defScope (top 46)) := ⟨rfl, rfl, rfl, by decide +kernel, rfl, by decide +kernel, by decide +kernel⟩
theorem ok_law (F : Fun K "law" "law" (top 46) f fd) (T : Txt BN mg) (c__law_cell_at : Cal P w K mg base 1 "_law_cell_at" ["_law_script", "_law_k"] (spCell K)) (c__law_parted : Cal P w K mg base 4 "_law_parted" ["_law_script", "_law_size", "_law_reach", "_law_many", "_law_order"] (spParted18 K)) (c__law_two : Cal P w K mg base 9 "_law_two" ["_law_rows", "_law_weights", "_law_head"] (spTwo K)) (c__law_drawn : Cal P w K mg base 3 "_law_drawn" ["_law_script", "_law_tops"] (spDrawn K)) (c__law_several : Cal P w K mg base 9 "_law_several" ["_law_points_here", "_law_weights", "_law_head"] (spSev K)) (c__law_is : Cal P w K mg base 1 "_law_is" ["_law_found", "_law_due"] spIs) (c__law_doublings : Cal P w K mg base 1 "_law_doublings" ["_law_many"] spDoubl) (c_halving_bound : Cal P w K mg base 1 "halving_bound" ["many", "some"] spHalv) : FnOk P w K mg base CX0 10 f fd ["_law_script"] (spLaw K) := by
  refine F.ok sc_law (fun vs H Q E h => ?_) (fun cdv A outer s H vs Q E hr h => ?_)
  · obtain ⟨a, ns, rfl, _⟩ := h
    rfl
  obtain ⟨a, ns, rfl, hS, hl63, q⟩ := h
  refine ⟨_, (pss_cons (ps_join (ps_set (i := 1) sc_law.nd rfl (Or.inl rfl) (pe_op op_mod (pe_op op_fdivP (pe_cal c__law_cell_at (hr.mono (by decide)) rfl (pa_cons (pv 0) (pa_cons pe_int pa_nil))) pe_int) (pe_op op_pow pe_int pe_int))))
      (pss_cons (ps_set (i := 2) sc_law.nd rfl (Or.inl rfl) (pe_op op_add pe_int (pe_op op_mod (pe_op op_fdivP (pv 1) pe_int) pe_int)))
      (pss_cons (ps_join (ps_set (i := 3) sc_law.nd rfl (Or.inl rfl) (pe_op op_add pe_int (pe_op op_mod (pe_op op_fdivP (pv 1) pe_int) pe_int))))
      (pss_cons (ps_join (ps_set (i := 4) sc_law.nd rfl (Or.inl rfl) (pe_ix (ix_listK (K := K) rfl) (pe_lst (pa_cons pe_int (pa_cons pe_int (pa_cons pe_int (pa_cons pe_int pa_nil))))) (pe_op op_mod (pe_op op_fdivP (pv 1) pe_int) pe_int) (fun _ _ => rfl))))
      (pss_cons (ps_asg (pe_cal c__law_parted (hr.mono (by decide)) rfl (pa_cons (pv 0) (pa_cons (pv 3) (pa_cons (pv 4) (pa_cons (pv 2) (pa_cons pe_int pa_nil)))))) (pg_lstK (K := K) (n := 3) rfl rfl (pgs_cons (pg_name (i := 5) sc_law.nd rfl (Or.inl rfl)) (pgs_cons (pg_name (i := 6) sc_law.nd rfl (Or.inl rfl)) (pgs_cons (pg_name (i := 7) sc_law.nd rfl (Or.inl rfl)) pgs_nil)))))
      (pss_cons (ps_set (i := 8) sc_law.nd rfl (Or.inl rfl) (pe_callTy (call_listK (K := K) rfl) rfl (T.nb "list" (by decide)) (by decide +kernel) (pa_cons (pv 6) pa_nil)))
      (pss_cons (ps_if (PW.pt (pw_or (pt_not (pt_val (pe_cal c__law_two (hr.mono (by decide)) rfl (pa_cons (pv 6) (pa_cons (pv 5) (pa_cons (pv 1) pa_nil)))))) (pw_or1 (pt_cmpR (op_neDeep 2 (K := K) rfl hr.units8 (by decide)) (pv 6) (pv 8) (nomark _))))) (pss_one (ps_ret pe_bl)) pss_nil)
      (pss_cons (ps_join (ps_set (i := 9) sc_law.nd rfl (Or.inl rfl) (pe_op op_add pe_int (pe_op op_mod (pe_op op_fdivP (pv 1) pe_int) pe_int))))
      (pss_cons (ps_join (ps_set (i := 10) sc_law.nd rfl (Or.inl rfl) (pe_cal c__law_drawn (hr.mono (by decide)) rfl (pa_cons (pv 0) (pa_cons (pe_comp (sc := defScope (top 46)) (N := ["_law_script", "_law_head", "_law_many", "_law_size", "_law_reach", "_law_weights", "_law_rows", "_law_order", "_law_kept", "_law_sides", "_law_drawn_here", "_law_several_here", "_law_side", "_law_points_here", "_law_some", "_law_telling"]) (NB := ["_law_k"]) (fr := [none]) rfl (by decide +kernel) (pi_range1 rfl (T.nb "range" (by decide)) (pa_cons (pe_op op_mulB (pv 9) (pe_op op_add (pv 2) pe_int)) pa_nil)) (fun _ _ _ _ => (pg_name (i := 0) (show (["_law_k"] : List Str).Nodup by decide +kernel) rfl (Or.inl rfl))) (fun _ _ _ _ => .nil) (fun _ _ _ _ => pe_int)) pa_nil)))))
      (pss_cons (ps_set (i := 11) sc_law.nd rfl (Or.inl rfl) (pe_lst pa_nil))
      (pss_cons (ps_join (ps_for PassesOwn.never rfl (pi_range1 rfl (T.nb "range" (by decide)) (pa_cons (pv 9) pa_nil)) (pg_name (i := 12) sc_law.nd rfl (Or.inl rfl)) (pss_one (ps_expr (pe_bm PySem.F.plainAttrs_list PySem.F.slot_list_append PySem.F.type_list_append mt_append (pv 11) (pa_cons (pe_callTy (call_tupleK (K := K) rfl) rfl (T.nb "tuple" (by decide)) (by decide +kernel) (pa_cons (pe_comp (sc := defScope (top 46)) (N := ["_law_script", "_law_head", "_law_many", "_law_size", "_law_reach", "_law_weights", "_law_rows", "_law_order", "_law_kept", "_law_sides", "_law_drawn_here", "_law_several_here", "_law_side", "_law_points_here", "_law_some", "_law_telling"]) (NB := ["_law_number"]) (fr := [none]) rfl (by decide +kernel) (pi_list (pe_slice (sl_listK (K := K) rfl) (pv 10) (po_some (pe_op op_mulB (pv 12) (pe_op op_add (pv 2) pe_int))) (po_some (pe_op op_mulB (pe_op op_add (pv 12) pe_int) (pe_op op_add (pv 2) pe_int))))) (fun _ _ _ _ => (pg_name (i := 0) (show (["_law_number"] : List Str).Nodup by decide +kernel) rfl (Or.inl rfl))) (fun _ _ _ _ => .nil) (fun _ _ _ _ => (pe_op op_sub (pv 0) pe_int))) pa_nil)) pa_nil))))))
      (pss_cons (ps_join (ps_set (i := 13) sc_law.nd rfl (Or.inl rfl) (pe_slice (sl_listK (K := K) rfl) (pe_comp (sc := defScope (top 46)) (N := ["_law_script", "_law_head", "_law_many", "_law_size", "_law_reach", "_law_weights", "_law_rows", "_law_order", "_law_kept", "_law_sides", "_law_drawn_here", "_law_several_here", "_law_side", "_law_points_here", "_law_some", "_law_telling"]) (NB := ["_law_point", "_law_side"]) (fr := [none, none]) rfl (by decide +kernel) (pi_list (pv 6)) (fun _ _ _ _ => (pg_tupK (K := K) (n := 2) rfl rfl (pgs_cons (pg_name (i := 0) (show (["_law_point", "_law_side"] : List Str).Nodup by decide +kernel) rfl (Or.inl rfl)) (pgs_cons (pg_name (i := 1) (show (["_law_point", "_law_side"] : List Str).Nodup by decide +kernel) rfl (Or.inl rfl)) pgs_nil)))) (fun _ _ _ _ => .nil) (fun _ _ _ _ => (pv 0))) po_none (po_some (pe_op op_mod (pe_op op_fdivP (pv 1) pe_int) pe_int)))))
      (pss_cons (ps_if (pt_not (pt_val (pe_cal c__law_several (hr.mono (by decide)) rfl (pa_cons (pv 13) (pa_cons (pe_callTy (call_tupleK (K := K) rfl) rfl (T.nb "tuple" (by decide)) (by decide +kernel) (pa_cons (pv 11) pa_nil)) (pa_cons (pv 1) pa_nil)))))) (pss_one (ps_ret pe_bl)) pss_nil)
      (pss_cons (ps_join (ps_set (i := 14) sc_law.nd rfl (Or.inl rfl) (pe_op op_add pe_int (pe_op op_mod (pe_op op_fdivP (pv 1) pe_int) pe_int))))
      (pss_cons (ps_join (ps_for PassesOwn.never rfl (pi_list (pe_lst (pa_cons pe_int (pa_cons (pe_op op_fdivP (pv 14) pe_int) (pa_cons (pv 14) pa_nil))))) (pg_name (i := 15) sc_law.nd rfl (Or.inl rfl)) (pss_one (ps_if (pt_not (pt_val (pe_cal c__law_is (hr.mono (by decide)) rfl (pa_cons (pe_cal c_halving_bound (hr.mono (by decide)) rfl (pa_cons (pv 14) (pa_cons (pv 15) pa_nil))) (pa_cons (pe_op op_add (pe_op op_mulB (pe_op op_mulB pe_int (pv 15)) (pe_cal c__law_doublings (hr.mono (by decide)) rfl (pa_cons (pv 14) pa_nil))) pe_int) pa_nil))))) (pss_one (ps_ret pe_bl)) pss_nil))))
      (pss_one (ps_ret pe_bl))))))))))))))))), ?_⟩
  refine ⟨fun σ H' => ∃ hd : Int, 0 ≤ hd ∧ hd < 1000000000000000 ∧ σ = [some (.ref a), some (.int hd), none, none, none, none, none, none, none, none, none, none, none, none, none, none] ∧ H' = H, ?_, ?_⟩
  · refine ⟨_, rfl, a, ns, 0, rfl, hS, by decide, _, _, rfl, rfl, div64 (by decide) (by decide), _, _, rfl, rfl, ⟨by decide, by decide, by decide⟩, _, _, rfl, rfl, (by show (0 : Int) < 10 ^ 15; decide), ?_⟩
    exact ⟨_, Int.emod_nonneg _ (by decide), Int.emod_lt_of_pos _ (by decide), rfl, rfl⟩
  rintro σ H0 ⟨hd, hd0, hd1, rfl, e0⟩
  subst e0
  obtain ⟨m, em⟩ : ∃ m : Nat, 1 + hd / 72 % 4 = (m : Int) := ⟨(1 + hd / 72 % 4).toNat, by omega⟩
  obtain ⟨n, en⟩ : ∃ k : Nat, 1 + hd / 288 % 10 = (k : Int) := ⟨(1 + hd / 288 % 10).toNat, by omega⟩
  have hm0 : 0 < m := by omega
  have hm4 : m ≤ 4 := by omega
  have hn0 : 0 < n := by omega
  have hn10 : n ≤ 10 := by omega
  refine ⟨_, rfl, _, _, rfl, rfl, div64 (by decide) (by decide), _, _, rfl, rfl, (by show (0 : Int) < 4; decide), _, _, rfl, rfl, ?_⟩
  refine ⟨fun σ H' => σ = [some (.ref a), some (.int hd), some (.int m), some (.int n), none, none, none, none, none, none, none, none, none, none, none, none] ∧ H' = H0, ?_, ?_⟩
  · refine ⟨_, rfl, _, _, rfl, rfl, div64 (by decide) (by decide), _, _, rfl, rfl, (by show (0 : Int) < 10; decide), _, _, rfl, rfl, ?_, rfl⟩
    show [some (V.ref a), some (.int hd), some (.int (1 + hd / 72 % 4)), some (.int (1 + hd / 288 % 10)), none, none, none, none, none, none, none, none, none, none, none, none] = _
    rw [em, en]
  clear em en
  rintro σ H1 ⟨rfl, rfl⟩
  refine ⟨fun σ H' => ∃ re : Int, 1 ≤ re ∧ re ≤ 1000 ∧ σ = [some (.ref a), some (.int hd), some (.int m), some (.int n), some (.int re), none, none, none, none, none, none, none, none, none, none, none] ∧ Same H1 H', ?_, ?_⟩
  · refine ⟨(by show 4 ≤ sizeLine; decide), fun p1 hp1 => ?_⟩
    have q2 : 0 ≤ hd / 2880 % 4 ∧ hd / 2880 % 4 < 4 := ⟨Int.emod_nonneg _ (by decide), Int.emod_lt_of_pos _ (by decide)⟩
    obtain ⟨re, hre, hat1⟩ := at_mem (ds := [3, 5, 3, 1000]) (z := hd / 2880 % 4) q2.1 q2.2
    refine ⟨_, rfl, _, _, rfl, rfl, div64 (by decide) (by decide), _, _, rfl, rfl, (by show (0 : Int) < 4; decide), p1, _, _, _, rfl, rfl, SqL.of upd_same, hat1, ?_⟩
    have hre2 : re = 3 ∨ re = 5 ∨ re = 3 ∨ re = 1000 := by simpa using hre
    exact ⟨re, by omega, by omega, rfl, Same.new hp1 _⟩
  rintro σ H2 ⟨re, hre1, hre2, rfl, s2⟩
  -- weights and rows
  refine ⟨_, rfl, _, rfl, _, rfl, _, rfl, a, ns, n, m, 0, re, rfl, s2.seq hS, hn0, hn10, hm0, hm4, hre1, hre2, by decide, fun r t rr ro H4 ws as rs os s4 hr0 hR hT hRR hRs hO hrl hwl hwb hpart _ _ _ => ?_⟩
  refine ⟨r, _, rfl, SqL.of hR, rfl, _, _, rfl, _, _, rfl, _, _, rfl, rfl, ?_⟩
  have hne : rs ≠ [] := fun z => by rw [z] at hrl; simp at hrl; omega
  have hal : as.length = rs.length := Paired.length hRs
  refine ⟨_, rfl, rr, _, rfl, .inl (SqL.of hRR), fun kl hkl => ?_⟩
  have s5 := Same.new hkl (.lst (as.map V.ref))
  have hKL : upd H4 kl (.lst (as.map V.ref)) kl = some (.lst (as.map V.ref)) := upd_same
  generalize upd H4 kl (.lst (as.map V.ref)) = H5 at *
  refine ⟨_, rfl, _, rfl, _, rfl, rr, t, as, m, rs, ws, hd, rfl, SqL.of (s5 _ _ hRR), hRs.same s5, hO, hne, by omega, SqT.of (s5 _ _ hT), hwl, hwb, hpart, hd0, fun H6 s6 => ?_⟩
  refine ⟨_, rfl, ?_⟩
  refine iteF ?_
  have s46 := s5.trans s6
  have hRs6 := hRs.same s46
  refine ⟨_, rfl, _, rfl, ⟨rr, kl, _, _, rfl, rfl, .inl ⟨SqL.of (s46 _ _ hRR), SqL.of (s6 _ _ hKL)⟩, rows_deep hRs6⟩, _, rfl, ?_⟩
  refine iteF ?_
  have s06 := s2.trans (s4.trans s46)
  have hRR6 := s46 _ _ hRR
  clear hT hwl hwb hpart hKL hR
  -- sides
  refine ⟨fun σ H' => ∃ S : Nat, 2 ≤ S ∧ S ≤ 5 ∧ σ = [some (.ref a), some (.int hd), some (.int m), some (.int n), some (.int re), some (.ref t), some (.ref rr), some (.ref ro), some (.ref kl), some (.int S), none, none, none, none, none, none] ∧ H' = H6, ?_, ?_⟩
  · refine ⟨_, rfl, _, _, rfl, rfl, div64 (by decide) (by decide), _, _, rfl, rfl, (by show (0 : Int) < 4; decide), _, _, rfl, rfl, ?_⟩
    refine ⟨(2 + hd / 11520 % 4).toNat, by omega, by omega, ?_, rfl⟩
    have h0 : (0 : Int) ≤ 2 + hd / 11520 % 4 := by omega
    show [some (V.ref a), some (.int hd), some (.int m), some (.int n), some (.int re), some (.ref t), some (.ref rr), some (.ref ro), some (.ref kl), some (.int (2 + hd / 11520 % 4)), none, none, none, none, none, none] = _
    rw [Int.toNat_of_nonneg h0]
  rintro σ H6 ⟨S, hS2, hS5, rfl, rfl⟩
  have hSm : S * (m + 1) ≤ 25 := Nat.le_trans (Nat.mul_le_mul hS5 (by omega : m + 1 ≤ 5)) (by decide)
  have hSmI : (S : Int) * ((m : Int) + 1) = ((S * (m + 1) : Nat) : Int) := by rw [Int.natCast_mul, Int.natCast_add]; rfl
  refine ⟨fun σ H' => ∃ (dr : Addr) (ds : List Int), ds.length = S * (m + 1) ∧ (∀ d ∈ ds, 0 ≤ d ∧ d < 13) ∧ σ = [some (.ref a), some (.int hd), some (.int m), some (.int n), some (.int re), some (.ref t), some (.ref rr), some (.ref ro), some (.ref kl), some (.int S), some (.ref dr), none, none, none, none, none] ∧ Same H6 H' ∧ H' dr = some (.lst (ds.map V.int)), ?_, ?_⟩
  · refine ⟨_, rfl, _, rfl, _, rfl, _, _, rfl, rfl, _, _, rfl, rfl, mul64 (by omega) (by omega) (by show _ < (m : Int) + 1; omega) (by show (m : Int) + 1 < _; omega), (S : Int) * ((m : Int) + 1), rfl, by omega, by omega, fun D hD => ?_⟩
    refine comp_range_rel (n := ((S : Int) * ((m : Int) + 1)).toNat) (fun _ _ y => y = .int 13) (fun _ _ _ _ _ h => h) (Nat.le_of_lt (small1000 (by omega))) hD (fun i H1 R hi1 s1 _ hq => ⟨wk_none (n := 1) rfl, ?_⟩) ?_
    · exact hq _ H1 (Same.refl _) rfl
    rintro ys H7 s7 hL7 hy1 hy2
    have ey : ys = (List.replicate (S * (m + 1)) (13 : Int)).map V.int := by
      rw [List.map_replicate]
      exact List.eq_replicate_iff.mpr ⟨by rw [hy1, hSmI, Int.toNat_natCast], fun y hy => by obtain ⟨j, hj⟩ := List.getElem?_of_mem hy; exact hy2 j y hj⟩
    subst ey
    refine ⟨a, D, ns, _, rfl, (s06.trans s7).seq hS, SqL.of hL7, ⟨by rw [List.length_replicate]; omega, fun t ht => by rw [(List.mem_replicate.mp ht).2]; decide, fun t ht => by rw [(List.mem_replicate.mp ht).2]; decide⟩, fun r8 H8 ds s8 hr0 hR8 hpd => ?_⟩
    obtain ⟨h1, h2⟩ := below_rep hpd
    exact ⟨r8, ds, h1, h2, rfl, s7.trans s8, hR8⟩
  rintro σ H7 ⟨dr, ds, hdl, hdb, rfl, s7, hDR⟩
  -- weights of each side
  refine ⟨(by show 0 ≤ sizeLine; decide), fun p hp => ?_⟩
  refine ⟨fun σ H' => ∃ (bs : List Addr) (wss : List (List Int)) (v : Option V), σ = [some (.ref a), some (.int hd), some (.int m), some (.int n), some (.int re), some (.ref t), some (.ref rr), some (.ref ro), some (.ref kl), some (.int S), some (.ref dr), some (.ref p), v, none, none, none] ∧ Same H7 H' ∧ H' p = some (.lst (bs.map V.ref)) ∧ TsAt H' bs wss ∧ wss.length = S ∧ (∀ ws ∈ wss, ws.length = m + 1) ∧ (∀ ws ∈ wss, ∀ w ∈ ws, w.natAbs ≤ 1000), ?_, ?_⟩
  · refine ⟨_, rfl, (S : Int), rfl, by omega, by omega, ?_⟩
    refine for_range (lo := 0) (n := ((S : Int)).toNat) (fun i σ H' => ∃ (bs : List Addr) (wss : List (List Int)) (v : Option V), σ = [some (.ref a), some (.int hd), some (.int m), some (.int n), some (.int re), some (.ref t), some (.ref rr), some (.ref ro), some (.ref kl), some (.int S), some (.ref dr), some (.ref p), v, none, none, none] ∧ Same H7 H' ∧ H' p = some (.lst (bs.map V.ref)) ∧ TsAt H' bs wss ∧ wss.length = i ∧ (∀ ws ∈ wss, ws.length = m + 1) ∧ (∀ ws ∈ wss, ∀ w ∈ ws, w.natAbs ≤ 1000))
      ⟨[], [], none, rfl, Same.new hp _, upd_same, .nil, rfl, fun _ h => absurd h (by simp), fun _ h => absurd h (by simp)⟩ ?_ ?_
    · rintro i σ H' hi ⟨bs, wss, v, rfl, sm, hP, hTs, hwn, hc1, hc2⟩
      have hiS : i + 1 ≤ S := by omega
      have hle : (0 + (i : Int) + 1) * ((m : Int) + 1) ≤ (ds.length : Int) := by
        rw [hdl, ← hSmI]
        exact Int.mul_le_mul_of_nonneg_right (by omega) (by omega)
      have hexp : (0 + (i : Int) + 1) * ((m : Int) + 1) = (0 + (i : Int)) * ((m : Int) + 1) + ((m : Int) + 1) := by rw [Int.add_mul, Int.one_mul]
      have hlo : 0 ≤ (0 + (i : Int)) * ((m : Int) + 1) := Int.mul_nonneg (by omega) (by omega)
      have hbl : bs.length = wss.length := Paired.length hTs
      refine ⟨_, rfl, .inl ⟨rfl, _, SqL.of hP⟩, ?_⟩
      refine ⟨_, rfl, _, rfl, _, rfl, _, _, rfl, rfl, _, _, rfl, rfl, mul64 (by omega) (by omega) (by show _ < (m : Int) + 1; omega) (by show (m : Int) + 1 < _; omega), _, rfl, _, rfl, _, _, rfl, rfl, _, rfl, _, _, rfl, rfl, _, _, rfl, rfl, mul64 (by show _ < 0 + (i : Int) + 1; omega) (by show 0 + (i : Int) + 1 < _; omega) (by show _ < (m : Int) + 1; omega) (by show (m : Int) + 1 < _; omega), _, rfl, dr, _, rfl, SqL.of (sm _ _ hDR), fun ps1 hps => ?_⟩
      rw [cut_map, cutI_in ds hlo (by omega) hle]
      have hcut : ((ds.drop ((0 + (i : Int)) * ((m : Int) + 1)).toNat).take ((0 + (i : Int) + 1) * ((m : Int) + 1) - (0 + (i : Int)) * ((m : Int) + 1)).toNat).length = m + 1 := by
        rw [List.length_take, List.length_drop]; omega
      have hmem : ∀ x ∈ ((ds.drop ((0 + (i : Int)) * ((m : Int) + 1)).toNat).take ((0 + (i : Int) + 1) * ((m : Int) + 1) - (0 + (i : Int)) * ((m : Int) + 1)).toNat), 0 ≤ x ∧ x < 13 := fun x hx => hdb x (List.mem_of_mem_drop (List.mem_of_mem_take hx))
      generalize ((ds.drop ((0 + (i : Int)) * ((m : Int) + 1)).toNat).take ((0 + (i : Int) + 1) * ((m : Int) + 1) - (0 + (i : Int)) * ((m : Int) + 1)).toNat) = some1 at *
      have s8 := Same.new hps (.lst (some1.map V.int))
      have hP8 : upd H' ps1 (.lst (some1.map V.int)) ps1 = some (.lst (some1.map V.int)) := upd_same
      generalize upd H' ps1 (.lst (some1.map V.int)) = H8 at *
      refine ⟨ps1, rfl, ⟨_, SqL.of hP8⟩, fun D hDn => ?_⟩
      refine comp_list_rel (xs := some1.map V.int) (fun _ j y => ∀ d, some1[j]? = some d → y = .int (d - 6)) (fun _ _ _ _ _ h => h) (SqL.of hP8) (by rw [List.length_map, hcut]; exact Nat.le_of_lt (small1000 (by omega))) hDn ?_ ?_
      · rintro j x H9 R hx s9 _ hq
        obtain ⟨d, hd1, rfl⟩ := of_map hx
        refine ⟨wk_none (n := 1) rfl, ?_⟩
        refine ⟨_, rfl, _, _, rfl, rfl, hq _ H9 (Same.refl _) fun d2 h2 => ?_⟩
        rw [hd1] at h2; cases h2; rfl
      rintro zs H9 s9 hD9 hy1 hy2
      rw [List.length_map] at hy1
      have ez : zs = (some1.map fun d => d - 6).map V.int := by
        rw [List.map_map]
        exact ys_map hy1 fun j y r h1 h2 => hy2 j y h1 r h2
      subst ez
      refine ⟨D, _, rfl, .inl ⟨SqL.of hD9, fun pl hpl => ?_⟩⟩
      have s10 := Same.new hpl (.tup ((some1.map fun d => d - 6).map V.int))
      have sAll := s8.trans (s9.trans s10)
      refine ⟨p, _, _, rfl, rfl, sAll _ _ hP, by rw [List.length_map, hbl]; exact small1000 (by omega), ?_⟩
      refine ⟨bs ++ [pl], wss ++ [some1.map fun d => d - 6], _, rfl, (sm.trans sAll).upd_old hp, by rw [upd_same, List.map_append]; rfl, ?_, by rw [List.length_append, hwn]; rfl, fun w hw => ?_, fun w hw => ?_⟩
      · refine paired_snoc (Paired.mapP hTs fun b r h1 => ?_) ?_
        · have h2 := sAll _ _ h1
          rw [upd_ne (fun z => by rw [z, sAll _ _ hP] at h2; cases h2)]; exact h2
        · have hpn : pl ≠ p := fun z => by rw [z, (s8.trans s9) _ _ hP] at hpl; cases hpl
          rw [upd_ne hpn]; exact upd_same
      · rcases List.mem_append.mp hw with z | z
        · exact hc1 w z
        · rw [List.mem_singleton.mp z, List.length_map]; exact hcut
      · rcases List.mem_append.mp hw with z | z
        · exact hc2 w z
        · rw [List.mem_singleton.mp z]
          intro y hy
          obtain ⟨d, hd1, rfl⟩ := List.mem_map.mp hy
          have := hmem d hd1
          omega
    · rintro σ H' ⟨bs, wss, v, rfl, sm, hP, hTs, hwn, hc1, hc2⟩
      exact ⟨bs, wss, v, rfl, sm, hP, hTs, by omega, hc1, hc2⟩
  rintro σ H8 ⟨bs, wss, v, rfl, s8, hP8, hTs, hwn, hc1, hc2⟩
  have hW : WsOk wss := ⟨by omega, by omega, fun w hw => by rw [hc1 w hw]; omega, hc2⟩
  have s68 := s7.trans s8
  have hRR8 := s68 _ _ hRR6
  have hRs8 := hRs6.same s68
  -- the points
  refine ⟨fun σ H' => ∃ (pp : Addr) (ps : List Addr) (pts : List (List Int)), σ = [some (.ref a), some (.int hd), some (.int m), some (.int n), some (.int re), some (.ref t), some (.ref rr), some (.ref ro), some (.ref kl), some (.int S), some (.ref dr), some (.ref p), v, some (.ref pp), none, none] ∧ Same H8 H' ∧ H' pp = some (.lst (ps.map V.ref)) ∧ PtsAt K H' ps pts ∧ pts.length ≤ 90 ∧ (∀ x ∈ pts, ∃ r ∈ rs, x = r.1), ?_, ?_⟩
  · refine ⟨_, rfl, rr, rfl, ⟨_, SqL.of hRR8⟩, fun D hD => ?_⟩
    refine comp_list_rel (xs := as.map V.ref) (fun _ i y => ∀ r, rs[i]? = some r → ∃ q, y = .ref q ∧ SqT K H8 q (r.1.map V.int)) (fun _ _ _ _ _ h => h) (SqL.of hRR8) (by rw [List.length_map, hal]; exact Nat.le_of_lt (small1000 (by omega))) hD ?_ ?_
    · rintro i x H9 R hx s9 _ hq
      obtain ⟨A0, hA1, rfl⟩ := of_map hx
      obtain ⟨r, hr1, q0, hr2, hr3⟩ := paired_get hRs8 hA1
      refine ⟨A0, _, rfl, s9.seqT hr2, rfl, _, _, rfl, _, _, rfl, rfl, wk_none (n := 2) rfl, ?_⟩
      refine ⟨_, rfl, hq _ H9 (Same.refl _) fun r2 h2 => ?_⟩
      rw [hr1] at h2; cases h2
      exact ⟨q0, rfl, hr3⟩
    rintro ys H9 s9 hD9 hy1 hy2
    rw [List.length_map, hal] at hy1
    obtain ⟨ps, eps, hPts⟩ := pts_of (K := K) (H := H8) (ys := ys) (pts := rs.map (·.1)) (by rw [List.length_map]; exact hy1) (fun j y x h1 h2 => by
      rw [List.getElem?_map] at h2
      cases hj : rs[j]? with
      | none => rw [hj] at h2; cases h2
      | some r =>
        rw [hj] at h2
        cases h2
        exact hy2 j y h1 r hj)
    subst eps
    refine ⟨_, rfl, _, _, rfl, rfl, div64 (by decide) (by decide), _, _, rfl, rfl, (by show (0 : Int) < 11; decide), hd / 3 % 11, rfl, D, _, rfl, SqL.of hD9, fun p1 hp1 => ?_⟩
    rw [cutL_map]
    have s10 := s9.trans (Same.new hp1 (.lst ((cutL ps none (some (hd / 3 % 11))).map V.ref)))
    have hPc : PtsAt K (upd H9 p1 (.lst ((cutL ps none (some (hd / 3 % 11))).map V.ref))) _ _ := (hPts.same s10).cut none (some (hd / 3 % 11))
    refine ⟨p1, _, _, rfl, s10, upd_same, hPc, ?_, fun x hx => ?_⟩
    · have := cutL_len (rs.map (·.1)) none (some (hd / 3 % 11))
      rw [List.length_map] at this
      omega
    · obtain ⟨r, hr, e⟩ := List.mem_map.mp (cutL_in hx)
      exact ⟨r, hr, e.symm⟩
  rintro σ H9 ⟨pp, ps, pts, rfl, s9, hPP, hPts, hp90, hpin⟩
  refine ⟨_, rfl, _, rfl, p, _, rfl, .inl ⟨SqL.of (s9 _ _ hP8), fun tt htt => ?_⟩⟩
  have s10 := Same.new htt (.tup (bs.map V.ref))
  have hTT : upd H9 tt (.tup (bs.map V.ref)) tt = some (.tup (bs.map V.ref)) := upd_same
  generalize upd H9 tt (.tup (bs.map V.ref)) = H10 at *
  refine ⟨_, rfl, pp, tt, ps, bs, m, pts, wss, hd, rfl, SqL.of (s10 _ _ hPP), (Paired.mapP hPts fun _ _ h => s10.seqT h), hm0, hm4, hp90, fun x hx => ?_, fun x hx => ?_, SqT.of hTT, hTs.same (s9.trans s10), hW, hc1, hd0, hd1, fun H11 s11 => ?_⟩
  · obtain ⟨r, hr, rfl⟩ := hpin x hx
    exact hO.cnt r hr
  · obtain ⟨r, hr, rfl⟩ := hpin x hx
    exact hO.low r hr
  refine ⟨_, rfl, ?_⟩
  refine iteF ?_
  -- by halves
  refine ⟨fun σ H' => ∃ sm : Nat, 1 ≤ sm ∧ sm ≤ 12 ∧ σ = [some (.ref a), some (.int hd), some (.int m), some (.int n), some (.int re), some (.ref t), some (.ref rr), some (.ref ro), some (.ref kl), some (.int S), some (.ref dr), some (.ref p), v, some (.ref pp), some (.int sm), none], ?_, ?_⟩
  · refine ⟨_, rfl, _, _, rfl, rfl, div64 (by decide) (by decide), _, _, rfl, rfl, (by show (0 : Int) < 12; decide), _, _, rfl, rfl, ?_⟩
    refine ⟨(1 + hd / 46080 % 12).toNat, by omega, by omega, ?_⟩
    have h0 : (0 : Int) ≤ 1 + hd / 46080 % 12 := by omega
    show [some (V.ref a), some (.int hd), some (.int m), some (.int n), some (.int re), some (.ref t), some (.ref rr), some (.ref ro), some (.ref kl), some (.int S), some (.ref dr), some (.ref p), v, some (.ref pp), some (.int (1 + hd / 46080 % 12)), none] = _
    rw [Int.toNat_of_nonneg h0]
  rintro σ H12 ⟨sm, hsm1, hsm2, rfl⟩
  refine ⟨fun σ H' => True, ?_, ?_⟩
  · refine ⟨_, rfl, _, _, rfl, rfl, div64 (by decide) (by decide), _, rfl, (by show 3 ≤ sizeLine; decide), fun l hl => ?_⟩
    have hL : upd H12 l (.lst [.int 0, .int ((sm : Int) / 2), .int sm]) l = some (.lst [.int 0, .int ((sm : Int) / 2), .int sm]) := upd_same
    have each : ∀ (i : Nat) x, [V.int 0, .int ((sm : Int) / 2), .int sm][i]? = some x → ∃ k : Nat, k ≤ 12 ∧ x = .int k := fun i x hx => by
      match i, hx with
      | 0, hx => cases hx; exact ⟨0, by decide, rfl⟩
      | 1, hx => cases hx; exact ⟨sm / 2, by omega, rfl⟩
      | 2, hx => cases hx; exact ⟨sm, hsm2, rfl⟩
      | i + 3, hx => simp at hx
    refine ⟨l, rfl, ⟨_, SqL.of hL⟩, ?_⟩
    refine for_list (xs := [V.int 0, .int ((sm : Int) / 2), .int sm]) (fun i σ H' => ∃ v2 : Option V, σ = [some (.ref a), some (.int hd), some (.int m), some (.int n), some (.int re), some (.ref t), some (.ref rr), some (.ref ro), some (.ref kl), some (.int S), some (.ref dr), some (.ref p), v, some (.ref pp), some (.int sm), v2] ∧ H' l = some (.lst [.int 0, .int ((sm : Int) / 2), .int sm])) ⟨none, rfl, hL⟩ (fun i σ H' _ ⟨_, _, e⟩ => SqL.of e) ?_ ?_
    · rintro i x σ H' hx ⟨v2, rfl, hL'⟩
      obtain ⟨k, hk, rfl⟩ := each i x hx
      have hdb4 : dblF sm ≤ 4 := by
        unfold dblF
        repeat' split
        all_goals omega
      refine ⟨_, rfl, _, rfl, sm, k, rfl, hsm1, hsm2, hk, ?_⟩
      refine ⟨_, rfl, _, _, rfl, rfl, mul64 (by decide) (by decide) (by omega) (by omega), _, rfl, sm, rfl, hsm2, ?_⟩
      refine ⟨_, _, rfl, rfl, mul64 (by omega) (by omega) (by omega) (by omega), _, _, rfl, rfl, 3 * (k : Int) * (dblF sm : Nat) + 1, rfl, _, rfl, ?_⟩
      refine iteF ?_
      exact ⟨_, rfl, hL'⟩
    · rintro σ H' _
      exact trivial
  rintro σ H13 _
  exact q _
end
end Mw
def PySem.W.Fast.tw16308145683432501611 : Nat := 0
def PySem.W.Fast.tw4733377976455106161 : Nat := 0
def PySem.W.Fast.tw18175819153165626446 : Nat := 0
def PySem.W.Fast.tw17857814854519893413 : Nat := 0
def PySem.W.Fast.tw7205794874131525850 : Nat := 0
def PySem.W.Fast.tw2170913819747977931 : Nat := 0
def PySem.W.Fast.tw15442091572360900080 : Nat := 0
def PySem.W.Fast.tw269821710415393229 : Nat := 0
def PySem.W.Fast.tw2511915353175451391 : Nat := 0
def PySem.W.Fast.tw14972159377970828047 : Nat := 0
def PySem.W.Fast.tw8418878058488921335 : Nat := 0
def PySem.W.Fast.tw16144310681528055532 : Nat := 0
def PySem.W.Fast.tw6993755201105836128 : Nat := 0
def PySem.W.Fast.tw17107616520877764521 : Nat := 0
def PySem.W.Fast.tw14608206995006210704 : Nat := 0
def PySem.W.Fast.tw2366571071438524266 : Nat := 0
def PySem.W.Fast.tw17034446938319642921 : Nat := 0
def PySem.W.Fast.tw1292270040192579523 : Nat := 0
def PySem.W.Fast.tw7584343346416965164 : Nat := 0
def PySem.W.Fast.tw12690095704847680415 : Nat := 0
def PySem.W.Fast.tw13346263778420035014 : Nat := 0
def PySem.W.Fast.tw9138376628655999357 : Nat := 0
def PySem.W.Fast.tw11817825019342659663 : Nat := 0
def PySem.W.Fast.tw16438711765467622763 : Nat := 0
def PySem.W.Fast.tw3267607166467669624 : Nat := 0
def PySem.W.Fast.tw16679960229450312542 : Nat := 0
def PySem.W.Fast.tw7260761113612336130 : Nat := 0
def PySem.W.Fast.tw14192529140310763353 : Nat := 0
def PySem.W.Fast.tw787094092207158696 : Nat := 0
def PySem.W.Fast.tw11763481400271377059 : Nat := 0
def PySem.W.Fast.tw382674740494599251 : Nat := 0
def PySem.W.Fast.tw7390319236276035200 : Nat := 0
def PySem.W.Fast.tw9518753077042167894 : Nat := 0
def PySem.W.Fast.tw15179729504701616429 : Nat := 0
def PySem.W.Fast.tw12628752540925253592 : Nat := 0
def PySem.W.Fast.tw9854191236281125224 : Nat := 0
def PySem.W.Fast.tw17310407668259075064 : Nat := 0
def PySem.W.Fast.tw284169989840467409 : Nat := 0
def PySem.W.Fast.tw7636499993602207250 : Nat := 0
def PySem.W.Fast.tw16123920873729613270 : Nat := 0
def PySem.W.Fast.tw18441674312747251334 : Nat := 0
def PySem.W.Fast.tw16040056091917527264 : Nat := 0
def PySem.W.Fast.tw6840125068349153810 : Nat := 0
def PySem.W.Fast.tw8329107082183183283 : Nat := 0
def PySem.W.Fast.tw4739697493184670829 : Nat := 0
def PySem.W.Fast.tw9510372723767986037 : Nat := 0
def PySem.W.Fast.tw6491514061997394313 : Nat := 0
def PySem.W.Fast.tw14554768668943445678 : Nat := 0
def PySem.W.Fast.tw17303678440753262411 : Nat := 0
def PySem.W.Fast.tw2785007843653285128 : Nat := 0
def PySem.W.Fast.tw15601744302020364747 : Nat := 0
def PySem.W.Fast.tw13811195731185610354 : Nat := 0
def PySem.W.Fast.tw10489992528147077474 : Nat := 0
def PySem.W.Fast.tw17164861660677641177 : Nat := 0
def PySem.W.Fast.tw7399019029106104962 : Nat := 0
def PySem.W.Fast.tw15814178359445946902 : Nat := 0
def PySem.W.Fast.tw11363489619329445351 : Nat := 0
def PySem.W.Fast.tw2080523000928149165 : Nat := 0
def PySem.W.Fast.tw3042418770077372812 : Nat := 0
def PySem.W.Fast.tw16772111035527431877 : Nat := 0
def PySem.W.Fast.tw18404185240332520379 : Nat := 0
def PySem.W.Fast.tw396289821246606855 : Nat := 0
def PySem.W.Fast.tw5874998286332921165 : Nat := 0
def PySem.W.Fast.tw3946756103167558775 : Nat := 0
def PySem.W.Fast.tw530778258438387081 : Nat := 0
def PySem.W.Fast.tw5327941542823543363 : Nat := 0
def PySem.W.Fast.tw9952632965203665596 : Nat := 0
def PySem.W.Fast.tw5918795833569770566 : Nat := 0
def PySem.W.Fast.tw6921112179671675205 : Nat := 0
def PySem.W.Fast.tw2611857714504818747 : Nat := 0
def PySem.W.Fast.tw13274341781743948304 : Nat := 0
def PySem.W.Fast.tw12673660238111492560 : Nat := 0
def PySem.W.Fast.tw8686609364364728613 : Nat := 0
def PySem.W.Fast.tw16719460708807640075 : Nat := 0
def PySem.W.Fast.tw11161393303936389384 : Nat := 0
def PySem.W.Fast.tw13878775113318638899 : Nat := 0
def PySem.W.Fast.tw2563179743065782173 : Nat := 0
def PySem.W.Fast.tw9191663256012988070 : Nat := 0
def PySem.W.Fast.tw502236569635172842 : Nat := 0
def PySem.W.Fast.tw9450696405403458149 : Nat := 0
def PySem.W.Fast.tw3926985185239261672 : Nat := 0
def PySem.W.Fast.tw7716406237861270103 : Nat := 0
def PySem.W.Fast.tw10991372945362401970 : Nat := 0
def PySem.W.Fast.tw10287238948636810762 : Nat := 0
def PySem.W.Fast.tw7101596515838185630 : Nat := 0
def PySem.W.Fast.tw13790559555177148144 : Nat := 0
def PySem.W.Fast.tw6183783810936128156 : Nat := 0
def PySem.W.Fast.tw6477848560554023360 : Nat := 0
def PySem.W.Fast.tw13309332520063639358 : Nat := 0
def PySem.W.Fast.tw8441150094500334632 : Nat := 0
def PySem.W.Fast.tw14485010467140273268 : Nat := 0
def PySem.W.Fast.tw8003823856361498169 : Nat := 0
def PySem.W.Fast.tw2836928735212355333 : Nat := 0
def PySem.W.Fast.tw18420685603514435879 : Nat := 0
def PySem.W.Fast.tw18021823462337773953 : Nat := 0
def PySem.W.Fast.tw16344366159503589016 : Nat := 0
def PySem.W.Fast.tw4466577733883987395 : Nat := 0
def PySem.W.Fast.tw2190413107374635517 : Nat := 0
def PySem.W.Fast.tw16713371461020150026 : Nat := 0
def PySem.W.Fast.tw14448876727806570503 : Nat := 0
def PySem.W.Fast.tw2742399864260820410 : Nat := 0
def PySem.W.Fast.tw12521740556388861208 : Nat := 0
def PySem.W.Fast.tw10874583990245760373 : Nat := 0
def PySem.W.Fast.tw5067337456954547195 : Nat := 0
def PySem.W.Fast.tw18330955356175339226 : Nat := 0
def PySem.W.Fast.tw15525338733043040764 : Nat := 0
def PySem.W.Fast.tw2118559241307376909 : Nat := 0
def PySem.W.Fast.tw6222865134938543073 : Nat := 0
def PySem.W.Fast.tw18209833958297007620 : Nat := 0
def PySem.W.Fast.tw11961061297469912798 : Nat := 0
def PySem.W.Fast.tw1024950439948136828 : Nat := 0
def PySem.W.Fast.tw7463235414392763150 : Nat := 0
def PySem.W.Fast.tw7325494287107138914 : Nat := 0
def PySem.W.Fast.tw12780239983024994965 : Nat := 0
def PySem.W.Fast.tw13789374022082708415 : Nat := 0
def PySem.W.Fast.tw17503557235516665434 : Nat := 0
def PySem.W.Fast.tw17247616901864674535 : Nat := 0
def PySem.W.Fast.tw7104690659739325336 : Nat := 0
def PySem.W.Fast.tw10111658082089959716 : Nat := 0
def PySem.W.Fast.tw5016701351832640861 : Nat := 0
def PySem.W.Fast.tw9296253697181533740 : Nat := 0
def PySem.W.Fast.tw14035384995152710136 : Nat := 0
def PySem.W.Fast.tw10735190950222288419 : Nat := 0
def PySem.W.Fast.tw10464604918928993920 : Nat := 0
def PySem.W.Fast.tw9552858414088048387 : Nat := 0
def PySem.W.Fast.tw2277654258246375317 : Nat := 0
def PySem.W.Fast.tw9412035106194983946 : Nat := 0
def PySem.W.Fast.tw13092027526529207434 : Nat := 0
def PySem.W.Fast.tw15981996259400805305 : Nat := 0
def PySem.W.Fast.tw1597012883793315941 : Nat := 0
def PySem.W.Fast.tw76803900116877232 : Nat := 0
def PySem.W.Fast.tw1063514422126036449 : Nat := 0
def PySem.W.Fast.tw4798059848096690221 : Nat := 0
def PySem.W.Fast.tw14505275747530098349 : Nat := 0
def PySem.W.Fast.tw403884141967615941 : Nat := 0
def PySem.W.Fast.tw17136941659541212795 : Nat := 0
def PySem.W.Fast.tw15993515323276040797 : Nat := 0
def PySem.W.Fast.tw2996066746280329994 : Nat := 0
def PySem.W.Fast.tw8697229100611751058 : Nat := 0
def PySem.W.Fast.tw5912203624169628185 : Nat := 0
def PySem.W.Fast.tw14817229542660181763 : Nat := 0
def PySem.W.Fast.tw11609422384823872464 : Nat := 0
def PySem.W.Fast.tw13433859458457713123 : Nat := 0
def PySem.W.Fast.tw7461434881298958253 : Nat := 0
def PySem.W.Fast.tw2364016726427484313 : Nat := 0
def PySem.W.Fast.tw15359402370858483546 : Nat := 0
def PySem.W.Fast.tw9586486346716313800 : Nat := 0
def PySem.W.Fast.tw338846311757642447 : Nat := 0
def PySem.W.Fast.tw14431745437829007162 : Nat := 0
def PySem.W.Fast.tw10986971432766081813 : Nat := 0
def PySem.W.Fast.tw1459172134335853414 : Nat := 0
def PySem.W.Fast.tw16363269499563660943 : Nat := 0
def PySem.W.Fast.tw7088945884749584982 : Nat := 0
def PySem.W.Fast.tw16749330803592892711 : Nat := 0
def PySem.W.Fast.tw8571564670886611859 : Nat := 0
def PySem.W.Fast.tw6686086554295898075 : Nat := 0
def PySem.W.Fast.tw11421693215630228862 : Nat := 0
def PySem.W.Fast.tw471543086334187603 : Nat := 0
def PySem.W.Fast.tw9423073337509290685 : Nat := 0
def PySem.W.Fast.tw12287674254532253285 : Nat := 0
def PySem.W.Fast.tw12172520959853779780 : Nat := 0
def PySem.W.Fast.tw3882237537360265202 : Nat := 0
def PySem.W.Fast.tw9666715448285824171 : Nat := 0
def PySem.W.Fast.tw4182670929098753332 : Nat := 0
def PySem.W.Fast.tw4443934553003240155 : Nat := 0
def PySem.W.Fast.tw4313498147853173516 : Nat := 0
def PySem.W.Fast.tw17630356888636134414 : Nat := 0
def PySem.W.Fast.tw17646008824825011707 : Nat := 0
def PySem.W.Fast.tw17900322028900061853 : Nat := 0
def PySem.W.Fast.tw8881649226694353085 : Nat := 0
def PySem.W.Fast.tw9107523188408661546 : Nat := 0
def PySem.W.Fast.tw544568716826396362 : Nat := 0
def PySem.W.Fast.tw15962134685969618824 : Nat := 0
def PySem.W.Fast.tw8892725269508670897 : Nat := 0
def PySem.W.Fast.tw2714765416066088577 : Nat := 0
def PySem.W.Fast.tw7421770417501962282 : Nat := 0
def PySem.W.Fast.tw17115593198869327833 : Nat := 0
def PySem.W.Fast.tw2677283697941079577 : Nat := 0
def PySem.W.Fast.tw12718612871409022907 : Nat := 0
def PySem.W.Fast.tw6440568356444299747 : Nat := 0
def PySem.W.Fast.tw14935222285909743875 : Nat := 0
def PySem.W.Fast.tw14875983087063547267 : Nat := 0
def PySem.W.Fast.tw16762076205702049613 : Nat := 0
def PySem.W.Fast.tw13011748846465204071 : Nat := 0
def PySem.W.Fast.tw11889993969014371578 : Nat := 0
def PySem.W.Fast.tw8967862578099358818 : Nat := 0
def PySem.W.Fast.tw1546499194122166208 : Nat := 0
def PySem.W.Fast.tw10076863520100679992 : Nat := 0
def PySem.W.Fast.tw5557010508245517218 : Nat := 0
def PySem.W.Fast.tw14023019203881632379 : Nat := 0
def PySem.W.Fast.tw2334224753451562196 : Nat := 0
def PySem.W.Fast.tw16996296083371616236 : Nat := 0
def PySem.W.Fast.tw11044869836384307653 : Nat := 0
def PySem.W.Fast.tw6023751508672083983 : Nat := 0
def PySem.W.Fast.tw39824510503857884 : Nat := 0
def PySem.W.Fast.tw18265341920755875811 : Nat := 0
def PySem.W.Fast.tw6118021051313079726 : Nat := 0
def PySem.W.Fast.tw17280848154372819130 : Nat := 0
def PySem.W.Fast.tw2245212290882740290 : Nat := 0
def PySem.W.Fast.tw17091985351072331208 : Nat := 0
def PySem.W.Fast.tw16684886943651472774 : Nat := 0
def PySem.W.Fast.tw4412973708498838228 : Nat := 0
def PySem.W.Fast.tw9800188152526961928 : Nat := 0
def PySem.W.Fast.tw8308685510365051618 : Nat := 0
def PySem.W.Fast.tw8748646433928112037 : Nat := 0
def PySem.W.Fast.tw12682345666695478541 : Nat := 0
def PySem.W.Fast.tw4204269736002778318 : Nat := 0
def PySem.W.Fast.tw8175098279368605821 : Nat := 0
def PySem.W.Fast.tw12280484572686404883 : Nat := 0
def PySem.W.Fast.tw1276398821986349511 : Nat := 0
def PySem.W.Fast.tw6795523821841518354 : Nat := 0
def PySem.W.Fast.tw2806694434366116583 : Nat := 0
def PySem.W.Fast.tw1329911188916945693 : Nat := 0
def PySem.W.Fast.tw7638373233670388288 : Nat := 0
def PySem.W.Fast.tw15833020236101211464 : Nat := 0
def PySem.W.Fast.tw17992056307771254130 : Nat := 0
def PySem.W.Fast.tw376406248691637795 : Nat := 0
def PySem.W.Fast.tw9938690230249489613 : Nat := 0
def PySem.W.Fast.tw7094069471448882459 : Nat := 0
def PySem.W.Fast.tw1250620703569199629 : Nat := 0
def PySem.W.Fast.tw6549434066952695458 : Nat := 0
def PySem.W.Fast.tw8464789566321520964 : Nat := 0
def PySem.W.Fast.tw6262906476994908725 : Nat := 0
def PySem.W.Fast.tw16821184156211869060 : Nat := 0
def PySem.W.Fast.tw11723716703831067457 : Nat := 0
def PySem.W.Fast.tw8666037901957053384 : Nat := 0
def PySem.W.Fast.tw13679265219302999305 : Nat := 0
def PySem.W.Fast.tw13138785015843988835 : Nat := 0
def PySem.W.Fast.tw1332693242795842784 : Nat := 0
def PySem.W.Fast.tw10360311334790718550 : Nat := 0
def PySem.W.Fast.tw7872982366694894847 : Nat := 0
def PySem.W.Fast.tw14983069900851016232 : Nat := 0
def PySem.W.Fast.tw6555810101997129107 : Nat := 0
def PySem.W.Fast.tw4400014490817773638 : Nat := 0
def PySem.W.Fast.tw15152685605936997899 : Nat := 0
def PySem.W.Fast.tw7702805955344281330 : Nat := 0
def PySem.W.Fast.tw9999408228779712252 : Nat := 0
def PySem.W.Fast.tw1463797678525341603 : Nat := 0
def PySem.W.Fast.tw17237438665161936926 : Nat := 0
def PySem.W.Fast.tw13065096417434281098 : Nat := 0
def PySem.W.Fast.tw4420053519998933610 : Nat := 0
def PySem.W.Fast.tw11057013619774251495 : Nat := 0
def PySem.W.Fast.tw11998156496670136019 : Nat := 0
def PySem.W.Fast.tw17126837826404842897 : Nat := 0
def PySem.W.Fast.tw4434321139213732009 : Nat := 0
def PySem.W.Fast.tw10178427151818589188 : Nat := 0
def PySem.W.Fast.tw180271129414721540 : Nat := 0
def PySem.W.Fast.tw5784610892153120578 : Nat := 0
def PySem.W.Fast.tw5524813531720970204 : Nat := 0
def PySem.W.Fast.tw10818485938376356684 : Nat := 0
def PySem.W.Fast.tw4998614635581715937 : Nat := 0
def PySem.W.Fast.tw7472428244294519720 : Nat := 0
def PySem.W.Fast.tw4729988384341692396 : Nat := 0
def PySem.W.Fast.tw11022574008272730017 : Nat := 0
def PySem.W.Fast.tw2539733287588271559 : Nat := 0
def PySem.W.Fast.tw14740367921046250971 : Nat := 0
def PySem.W.Fast.tw17911373897086303092 : Nat := 0
def PySem.W.Fast.tw15855171390021615907 : Nat := 0
def PySem.W.Fast.tw9051798284656484045 : Nat := 0
def PySem.W.Fast.tw6916108262078147519 : Nat := 0
def PySem.W.Fast.tw1408843685278462619 : Nat := 0
def PySem.W.Fast.tw11378126200798469244 : Nat := 0
def PySem.W.Fast.tw3334020083575521407 : Nat := 0
def PySem.W.Fast.tw5291122086670777770 : Nat := 0
def PySem.W.Fast.tw18126028423525299869 : Nat := 0
def PySem.W.Fast.tw3121899221508716978 : Nat := 0
def PySem.W.Fast.tw17513880216835395762 : Nat := 0
def PySem.W.Fast.tw16172451073674966491 : Nat := 0
def PySem.W.Fast.tw74208930006090503 : Nat := 0
def PySem.W.Fast.tw11267915136750472209 : Nat := 0
def PySem.W.Fast.tw5406326689563440151 : Nat := 0
def PySem.W.Fast.tw9215765622507498317 : Nat := 0
def PySem.W.Fast.tw3903231355396399053 : Nat := 0
def PySem.W.Fast.tw15933091938078692264 : Nat := 0
def PySem.W.Fast.tw5706505601755825268 : Nat := 0
def PySem.W.Fast.tw6632627944730604915 : Nat := 0
def PySem.W.Fast.tw13830082802236397278 : Nat := 0
def PySem.W.Fast.tw3013124591470305430 : Nat := 0
def PySem.W.Fast.tw8805009284119583095 : Nat := 0
def PySem.W.Fast.tw3387684941884310766 : Nat := 0
def PySem.W.Fast.tw1628411202927859621 : Nat := 0
def PySem.W.Fast.tw3301014343433672938 : Nat := 0
def PySem.W.Fast.tw3450950617360785783 : Nat := 0
def PySem.W.Fast.tw7918157041900608249 : Nat := 0
def PySem.W.Fast.tw6610134019732235878 : Nat := 0
def PySem.W.Fast.tw11830727290828850885 : Nat := 0
def PySem.W.Fast.tw18096725104149393805 : Nat := 0
def PySem.W.Fast.tw8059610024988560327 : Nat := 0
def PySem.W.Fast.tw6445782028685326681 : Nat := 0
def PySem.W.Fast.tw7542722359497172198 : Nat := 0
def PySem.W.Fast.tw2839877884305197563 : Nat := 0
def PySem.W.Fast.tw11712146959038679659 : Nat := 0
def PySem.W.Fast.tw6033970185244832882 : Nat := 0
def PySem.W.Fast.tw2022667196936398630 : Nat := 0
def PySem.W.Fast.tw6323491084630380238 : Nat := 0
def PySem.W.Fast.tw8773759611813829041 : Nat := 0
def PySem.W.Fast.tw18105306970216332563 : Nat := 0
def PySem.W.Fast.tw13114166296619077900 : Nat := 0
def PySem.W.Fast.tw14169232429229299430 : Nat := 0
def PySem.W.Fast.tw15525919550299029352 : Nat := 0
def PySem.W.Fast.tw3773197798316753767 : Nat := 0
def PySem.W.Fast.tw7934944300068859661 : Nat := 0
def PySem.W.Fast.tw11452027840124266491 : Nat := 0
def PySem.W.Fast.tw8125089004847900353 : Nat := 0
def PySem.W.Fast.tw5612618775531414654 : Nat := 0
def PySem.W.Fast.tw13034603324977558244 : Nat := 0
def PySem.W.Fast.tw601803209999281955 : Nat := 0
def PySem.W.Fast.tw4982951237903801526 : Nat := 0
def PySem.W.Fast.tw5323974749223247899 : Nat := 0
def PySem.W.Fast.tw13710747577166576569 : Nat := 0
def PySem.W.Fast.tw5979937725036296294 : Nat := 0
def PySem.W.Fast.tw8845408496391048898 : Nat := 0
def PySem.W.Fast.tw17126007415750964921 : Nat := 0
def PySem.W.Fast.tw4521765062279366090 : Nat := 0
def PySem.W.Fast.tw17491342976281468562 : Nat := 0
def PySem.W.Fast.tw18201849034612620429 : Nat := 0
def PySem.W.Fast.tw929695302650994932 : Nat := 0
def PySem.W.Fast.tw9001145696732463483 : Nat := 0
def PySem.W.Fast.tw1855486888929832486 : Nat := 0
def PySem.W.Fast.tw13763362813909903195 : Nat := 0
def PySem.W.Fast.tw7494537294584708378 : Nat := 0
def PySem.W.Fast.tw16164956963424089317 : Nat := 0
def PySem.W.Fast.tw10053882617883064854 : Nat := 0
def PySem.W.Fast.tw3927470765993167487 : Nat := 0
def PySem.W.Fast.tw2848061569693657893 : Nat := 0
def PySem.W.Fast.tw5735898377449103962 : Nat := 0
def PySem.W.Fast.tw11611415056262848667 : Nat := 0
def PySem.W.Fast.tw16083818307561857789 : Nat := 0
def PySem.W.Fast.tw17852829926040181082 : Nat := 0
def PySem.W.Fast.tw14349272845257872470 : Nat := 0
def PySem.W.Fast.tw7888412464522307047 : Nat := 0
def PySem.W.Fast.tw6346427435684039166 : Nat := 0
def PySem.W.Fast.tw13117591818875975514 : Nat := 0
def PySem.W.Fast.tw3294976628894906462 : Nat := 0
def PySem.W.Fast.tw15700545946450230412 : Nat := 0
def PySem.W.Fast.tw10652545123451292582 : Nat := 0
def PySem.W.Fast.tw54420361557959565 : Nat := 0
def PySem.W.Fast.tw17559085536673481216 : Nat := 0
def PySem.W.Fast.tw17314674547924521342 : Nat := 0
def PySem.W.Fast.tw15720337929628706125 : Nat := 0
def PySem.W.Fast.tw3566770252977484763 : Nat := 0
def PySem.W.Fast.tw8795783227736353301 : Nat := 0
def PySem.W.Fast.tw13576740105360872785 : Nat := 0
def PySem.W.Fast.tw6349931419481548153 : Nat := 0
def PySem.W.Fast.tw8289684130716495847 : Nat := 0
def PySem.W.Fast.tw3073636013873706308 : Nat := 0
def PySem.W.Fast.tw3125103162886744692 : Nat := 0
def PySem.W.Fast.tw6311356193512460135 : Nat := 0
def PySem.W.Fast.tw8030105935758140329 : Nat := 0
def PySem.W.Fast.tw1444630962168023759 : Nat := 0
def PySem.W.Fast.tw10531808723846600352 : Nat := 0
def PySem.W.Fast.tw12918557135318977846 : Nat := 0
def PySem.W.Fast.tw9478220746877157922 : Nat := 0
def PySem.W.Fast.tw7922174612373112418 : Nat := 0
def PySem.W.Fast.tw12803195544127870524 : Nat := 0
def PySem.W.Fast.tw10605167077648997291 : Nat := 0
def PySem.W.Fast.tw13319315886504969883 : Nat := 0
def PySem.W.Fast.tw10515901973347134892 : Nat := 0
def PySem.W.Fast.tw17479247571022758311 : Nat := 0
def PySem.W.Fast.tw5327644524266174214 : Nat := 0
open PySem PySem.W PyProof.Rows
set_option maxRecDepth 100000 in
set_option maxHeartbeats 0 in
theorem PySem.Challenge.cw_mendweights_k18_bounds_told_holds : PySem.Challenge.rw_mendweights_k18_bounds_told.Holds := by
  w_on; o_law; k_head; (case hw => w_witness2)
  k_fill
  refine L2.walkLaw (l := PySem.Challenge.rw_mendweights_k18_bounds_told) (k := 10) (x := "_law_script") rfl rfl ⟨rfl, by decide, by decide⟩ (fun w h Y => PySem.W.kIn_of Y) ?F
  case F =>
    intro w mg fa h KX G hmg
    have T : L2.Txt Mw.BN mg := by
      refine' L2.txt_cons KX G ?z1 (L2.txt_cons KX G ?z2 (L2.txt_cons KX G ?z3 (L2.txt_cons KX G ?z4 (L2.txt_cons KX G ?z5 (L2.txt_cons KX G ?z6 (L2.txt_cons KX G ?z7 (L2.txt_cons KX G ?z8 (L2.txt_cons KX G ?z9 (L2.txt_cons KX G ?z10 (L2.txt_cons KX G ?z11 (L2.txt_cons KX G ?z12 (L2.txt_cons KX G ?z13 (L2.txt_cons KX G ?z14 L2.txt_nil)))))))))))))
      (case z1 => k_is); (case z2 => k_is); (case z3 => k_is); (case z4 => k_is); (case z5 => k_is); (case z6 => k_is); (case z7 => k_is); (case z8 => k_is); (case z9 => k_is); (case z10 => k_is); (case z11 => k_is); (case z12 => k_is); (case z13 => k_is); (case z14 => k_is)
    obtain ⟨X_MendError, X_NoSide, X_NotParted, X_NoFraction, X_NoPoint, X_NoRow, X_NoTable, X_NoText, X_OneSide, X_TooMany, X_WrongBook, PR⟩ : ∃ X_MendError X_NoSide X_NotParted X_NoFraction X_NoPoint X_NoRow X_NoTable X_NoText X_OneSide X_TooMany X_WrongBook, Mw.Prog (L2.KOf KX) mg X_MendError X_NoSide X_NotParted X_NoFraction X_NoPoint X_NoRow X_NoTable X_NoText X_OneSide X_TooMany X_WrongBook := by
      dsimp only [L2.KOf]
      refine' ⟨_, _, _, _, _, _, _, _, _, _, _, ⟨⟨⟨?z2⟩, PySem.W.mg_of KX G ?z1⟩, ⟨⟨?z4⟩, PySem.W.mg_of KX G ?z3⟩, ⟨⟨?z6⟩, PySem.W.mg_of KX G ?z5⟩, ⟨PySem.W.mg_of KX G ?z7⟩, ⟨PySem.W.mg_of KX G ?z8⟩, ⟨PySem.W.mg_of KX G ?z9⟩, ⟨PySem.W.mg_of KX G ?z10⟩, ⟨PySem.W.mg_of KX G ?z11⟩, ⟨PySem.W.mg_of KX G ?z12⟩, ⟨PySem.W.mg_of KX G ?z13⟩, ⟨PySem.W.mg_of KX G ?z14⟩, ⟨?z15, ?z16, ?z17, ?z18, ?z19, ?z20, ?z21⟩, ?z22, ?z23, ?z24, ?z25, ?z26, ?z27, ?z28, ?z29, ?z30, ?z31, ?z32, ⟨?z33, ?z34, ?z35, ?z36, ?z37, ?z38, ?z39⟩, ?z40, ?z41, ?z42, ?z43, ?z44, ?z45, ?z46, ?z47, ?z48, ?z49, ?z50, ?z51, ?z52⟩⟩
      (case z1 => k_is)
      (case z2 => k_exc)
      (case z3 => k_is)
      (case z4 => k_exc)
      (case z5 => k_is)
      (case z6 => k_exc)
      (case z7 => k_is)
      (case z8 => k_is)
      (case z9 => k_is)
      (case z10 => k_is)
      (case z11 => k_is)
      (case z12 => k_is)
      (case z13 => k_is)
      (case z14 => k_is)
      (case z15 => k_is)
      (case z16 => k_is)
      (case z17 => k_is)
      (case z18 => k_is)
      (case z19 => k_is)
      (case z20 => k_is)
      (case z21 => k_is)
      (case z22 => kit_is)
      (case z23 => kit_is)
      (case z24 => kit_is)
      (case z25 => kit_is)
      (case z26 => kit_is)
      (case z27 => kit_is)
      (case z28 => kit_is)
      (case z29 => kit_is)
      (case z30 => kit_is)
      (case z31 => kit_is)
      (case z32 => kit_is)
      (case z33 => k_is)
      (case z34 => k_is)
      (case z35 => k_is)
      (case z36 => k_is)
      (case z37 => k_is)
      (case z38 => k_is)
      (case z39 => k_is)
      (case z40 => kit_is)
      (case z41 => kit_is)
      (case z42 => kit_is)
      (case z43 => kit_is)
      (case z44 => kit_is)
      (case z45 => kit_is)
      (case z46 => kit_is)
      (case z47 => kit_is)
      (case z48 => kit_is)
      (case z49 => kit_is)
      (case z50 => kit_is)
      (case z51 => kts_exm)
      (case z52 => kts_exm)
    have d13 : L2.DefAt (L2.KOf KX) "product" (Mw.top 13) := by dsimp only [L2.KOf]; refine' L2.defAt ?a ?l ?c ?k; (case a => k_is); (case l => k_is); (case c => k_is); (case k => k_is)
    have d14 : L2.DefAt (L2.KOf KX) "square" (Mw.top 14) := by dsimp only [L2.KOf]; refine' L2.defAt ?a ?l ?c ?k; (case a => k_is); (case l => k_is); (case c => k_is); (case k => k_is)
    have d15 : L2.DefAt (L2.KOf KX) "lifted" (Mw.top 15) := by dsimp only [L2.KOf]; refine' L2.defAt ?a ?l ?c ?k; (case a => k_is); (case l => k_is); (case c => k_is); (case k => k_is)
    have d16 : L2.DefAt (L2.KOf KX) "told_by" (Mw.top 16) := by dsimp only [L2.KOf]; refine' L2.defAt ?a ?l ?c ?k; (case a => k_is); (case l => k_is); (case c => k_is); (case k => k_is)
    have d17 : L2.DefAt (L2.KOf KX) "turned" (Mw.top 17) := by dsimp only [L2.KOf]; refine' L2.defAt ?a ?l ?c ?k; (case a => k_is); (case l => k_is); (case c => k_is); (case k => k_is)
    have d18 : L2.DefAt (L2.KOf KX) "turned_products" (Mw.top 18) := by dsimp only [L2.KOf]; refine' L2.defAt ?a ?l ?c ?k; (case a => k_is); (case l => k_is); (case c => k_is); (case k => k_is)
    have d19 : L2.DefAt (L2.KOf KX) "are_parted" (Mw.top 19) := by dsimp only [L2.KOf]; refine' L2.defAt ?a ?l ?c ?k; (case a => k_is); (case l => k_is); (case c => k_is); (case k => k_is)
    have d20 : L2.DefAt (L2.KOf KX) "gap_on" (Mw.top 20) := by dsimp only [L2.KOf]; refine' L2.defAt ?a ?l ?c ?k; (case a => k_is); (case l => k_is); (case c => k_is); (case k => k_is)
    have d21 : L2.DefAt (L2.KOf KX) "farthest" (Mw.top 21) := by dsimp only [L2.KOf]; refine' L2.defAt ?a ?l ?c ?k; (case a => k_is); (case l => k_is); (case c => k_is); (case k => k_is)
    have d22 : L2.DefAt (L2.KOf KX) "look_at_sides" (Mw.top 22) := by dsimp only [L2.KOf]; refine' L2.defAt ?a ?l ?c ?k; (case a => k_is); (case l => k_is); (case c => k_is); (case k => k_is)
    have d24 : L2.DefAtD (L2.KOf KX) "bound_of" (Mw.top 24) [.int 0] := by dsimp only [L2.KOf]; refine' L2.defAtD ?a ?l ?t ?c ?k ?h; (case a => k_is); (case l => k_is); (case t => k_is); (case c => k_is); (case k => k_is); (case h => exact ⟨[_], rfl, .cons ⟨_, rfl⟩ .nil⟩)
    have d25 : L2.DefAt (L2.KOf KX) "row_gap" (Mw.top 25) := by dsimp only [L2.KOf]; refine' L2.defAt ?a ?l ?c ?k; (case a => k_is); (case l => k_is); (case c => k_is); (case k => k_is)
    have d26 : L2.DefAt (L2.KOf KX) "sides_gap" (Mw.top 26) := by dsimp only [L2.KOf]; refine' L2.defAt ?a ?l ?c ?k; (case a => k_is); (case l => k_is); (case c => k_is); (case k => k_is)
    have d27 : L2.DefAt (L2.KOf KX) "sides_bound" (Mw.top 27) := by dsimp only [L2.KOf]; refine' L2.defAt ?a ?l ?c ?k; (case a => k_is); (case l => k_is); (case c => k_is); (case k => k_is)
    have d28 : L2.DefAt (L2.KOf KX) "halving_bound" (Mw.top 28) := by dsimp only [L2.KOf]; refine' L2.defAt ?a ?l ?c ?k; (case a => k_is); (case l => k_is); (case c => k_is); (case k => k_is)
    have d30 : L2.DefAt (L2.KOf KX) "_law_cell_at" (Mw.top 30) := by dsimp only [L2.KOf]; refine' L2.defAt ?a ?l ?c ?k; (case a => k_is); (case l => k_is); (case c => k_is); (case k => k_is)
    have d31 : L2.DefAt (L2.KOf KX) "_law_mixed" (Mw.top 31) := by dsimp only [L2.KOf]; refine' L2.defAt ?a ?l ?c ?k; (case a => k_is); (case l => k_is); (case c => k_is); (case k => k_is)
    have d32 : L2.DefAt (L2.KOf KX) "_law_drawn" (Mw.top 32) := by dsimp only [L2.KOf]; refine' L2.defAt ?a ?l ?c ?k; (case a => k_is); (case l => k_is); (case c => k_is); (case k => k_is)
    have d33 : L2.DefAt (L2.KOf KX) "_law_points" (Mw.top 33) := by dsimp only [L2.KOf]; refine' L2.defAt ?a ?l ?c ?k; (case a => k_is); (case l => k_is); (case c => k_is); (case k => k_is)
    have d34 : L2.DefAt (L2.KOf KX) "_law_product" (Mw.top 34) := by dsimp only [L2.KOf]; refine' L2.defAt ?a ?l ?c ?k; (case a => k_is); (case l => k_is); (case c => k_is); (case k => k_is)
    have d35 : L2.DefAt (L2.KOf KX) "_law_is" (Mw.top 35) := by dsimp only [L2.KOf]; refine' L2.defAt ?a ?l ?c ?k; (case a => k_is); (case l => k_is); (case c => k_is); (case k => k_is)
    have d36 : L2.DefAt (L2.KOf KX) "_law_parted" (Mw.top 36) := by dsimp only [L2.KOf]; refine' L2.defAt ?a ?l ?c ?k; (case a => k_is); (case l => k_is); (case c => k_is); (case k => k_is)
    have d37 : L2.DefAt (L2.KOf KX) "_law_numbers_of" (Mw.top 37) := by dsimp only [L2.KOf]; refine' L2.defAt ?a ?l ?c ?k; (case a => k_is); (case l => k_is); (case c => k_is); (case k => k_is)
    have d38 : L2.DefAt (L2.KOf KX) "_law_caught" (Mw.top 38) := by dsimp only [L2.KOf]; refine' L2.defAt ?a ?l ?c ?k; (case a => k_is); (case l => k_is); (case c => k_is); (case k => k_is)
    have d39 : L2.DefAt (L2.KOf KX) "_law_not_parted" (Mw.top 39) := by dsimp only [L2.KOf]; refine' L2.defAt ?a ?l ?c ?k; (case a => k_is); (case l => k_is); (case c => k_is); (case k => k_is)
    have d40 : L2.DefAt (L2.KOf KX) "_law_no_side" (Mw.top 40) := by dsimp only [L2.KOf]; refine' L2.defAt ?a ?l ?c ?k; (case a => k_is); (case l => k_is); (case c => k_is); (case k => k_is)
    have d41 : L2.DefAt (L2.KOf KX) "_law_two" (Mw.top 41) := by dsimp only [L2.KOf]; refine' L2.defAt ?a ?l ?c ?k; (case a => k_is); (case l => k_is); (case c => k_is); (case k => k_is)
    have d42 : L2.DefAt (L2.KOf KX) "_law_best" (Mw.top 42) := by dsimp only [L2.KOf]; refine' L2.defAt ?a ?l ?c ?k; (case a => k_is); (case l => k_is); (case c => k_is); (case k => k_is)
    have d43 : L2.DefAt (L2.KOf KX) "_law_least" (Mw.top 43) := by dsimp only [L2.KOf]; refine' L2.defAt ?a ?l ?c ?k; (case a => k_is); (case l => k_is); (case c => k_is); (case k => k_is)
    have d44 : L2.DefAt (L2.KOf KX) "_law_several" (Mw.top 44) := by dsimp only [L2.KOf]; refine' L2.defAt ?a ?l ?c ?k; (case a => k_is); (case l => k_is); (case c => k_is); (case k => k_is)
    have d45 : L2.DefAt (L2.KOf KX) "_law_doublings" (Mw.top 45) := by dsimp only [L2.KOf]; refine' L2.defAt ?a ?l ?c ?k; (case a => k_is); (case l => k_is); (case c => k_is); (case k => k_is)
    have d46 : L2.DefAt (L2.KOf KX) "law" (Mw.top 46) := by dsimp only [L2.KOf]; refine' L2.defAt ?a ?l ?c ?k; (case a => k_is); (case l => k_is); (case c => k_is); (case k => k_is)
    refine d46.law KX G hmg (fun _ _ _ _ _ _ => L2.len1 fun _ => rfl) fun f fd base F kb nb => ?_
    have c13 := d13.cal (P := PySem.Challenge.rw_mendweights_k18_bounds_told.prog) (w := w) (base := base) (ps := ["one", "other"]) KX G (fun _ _ _ _ _ _ => L2.len2 fun _ _ => rfl) fun f fd F => Mw.ok_product F T 
    have c14 := d14.cal (P := PySem.Challenge.rw_mendweights_k18_bounds_told.prog) (w := w) (base := base) (ps := ["one"]) KX G (fun _ _ _ _ _ _ => L2.len1 fun _ => rfl) fun f fd F => Mw.ok_square F T c13
    have c15 := d15.cal (P := PySem.Challenge.rw_mendweights_k18_bounds_told.prog) (w := w) (base := base) (ps := ["point"]) KX G (fun _ _ _ _ _ _ => L2.len1 fun _ => rfl) fun f fd F => Mw.ok_lifted F T 
    have c16 := d16.cal (P := PySem.Challenge.rw_mendweights_k18_bounds_told.prog) (w := w) (base := base) (ps := ["weights", "point"]) KX G (fun _ _ _ _ _ _ => L2.len2 fun _ _ => rfl) fun f fd F => Mw.ok_told_by F T c13 c15
    have c17 := d17.cal (P := PySem.Challenge.rw_mendweights_k18_bounds_told.prog) (w := w) (base := base) (ps := ["number", "side"]) KX G (fun _ _ _ _ _ _ => L2.len2 fun _ _ => rfl) fun f fd F => Mw.ok_turned F T 
    have c18 := d18.cal (P := PySem.Challenge.rw_mendweights_k18_bounds_told.prog) (w := w) (base := base) (ps := ["rows", "weights"]) KX G (fun _ _ _ _ _ _ => L2.len2 fun _ _ => rfl) fun f fd F => Mw.ok_turned_products F T c17 c16
    have c19 := d19.cal (P := PySem.Challenge.rw_mendweights_k18_bounds_told.prog) (w := w) (base := base) (ps := ["rows", "weights"]) KX G (fun _ _ _ _ _ _ => L2.len2 fun _ _ => rfl) fun f fd F => Mw.ok_are_parted F T c18
    have c20 := d20.cal (P := PySem.Challenge.rw_mendweights_k18_bounds_told.prog) (w := w) (base := base) (ps := ["rows", "weights"]) KX G (fun _ _ _ _ _ _ => L2.len2 fun _ _ => rfl) fun f fd F => Mw.ok_gap_on F T c18
    have c21 := d21.cal (P := PySem.Challenge.rw_mendweights_k18_bounds_told.prog) (w := w) (base := base) (ps := ["rows"]) KX G (fun _ _ _ _ _ _ => L2.len1 fun _ => rfl) fun f fd F => Mw.ok_farthest F T c14 c15
    have c22 := d22.calX (P := PySem.Challenge.rw_mendweights_k18_bounds_told.prog) (w := w) (base := base) (ps := ["rows", "sides"]) KX G (fun _ _ _ _ _ _ => L2.len2 fun _ _ => rfl) fun f fd F => Mw.ok_look_at_sides F T PR
    have c24 := d24.calX (P := PySem.Challenge.rw_mendweights_k18_bounds_told.prog) (w := w) (base := base) (ps := ["rows", "weights", "margin"]) KX G (fun d us hl => match us, hl with | [_, _, _], _ => fun _ _ _ _ _ _ _ => ⟨_, rfl, rfl⟩) fun dT dds f fd F => Mw.ok_bound_of F T PR c19 c20 c21 c14
    have c24D := d24.calD (P := PySem.Challenge.rw_mendweights_k18_bounds_told.prog) (w := w) (base := base) (ps := ["rows", "weights", "margin"]) KX G (fun d us hl => match us, hl with | [_, _], _ => fun _ _ _ _ _ _ _ => ⟨_, rfl, rfl⟩) fun dT dds f fd F => Mw.ok_bound_of F T PR c19 c20 c21 c14
    have c24K := d24.calK (P := PySem.Challenge.rw_mendweights_k18_bounds_told.prog) (w := w) (base := base) (ps := ["rows", "weights", "margin"]) (ky := "margin") KX G rfl (fun d a b c => fun _ _ _ _ _ _ _ => ⟨_, rfl, rfl⟩) fun dT dds f fd F => Mw.ok_bound_of F T PR c19 c20 c21 c14
    have c25 := d25.cal (P := PySem.Challenge.rw_mendweights_k18_bounds_told.prog) (w := w) (base := base) (ps := ["point", "side", "weights"]) KX G (fun _ _ _ _ _ _ => L2.len3 fun _ _ _ => rfl) fun f fd F => Mw.ok_row_gap F T c16
    have c26 := d26.calX (P := PySem.Challenge.rw_mendweights_k18_bounds_told.prog) (w := w) (base := base) (ps := ["rows", "weights"]) KX G (fun _ _ _ _ _ _ => L2.len2 fun _ _ => rfl) fun f fd F => Mw.ok_sides_gap F T c22 c25
    have c27 := d27.calX (P := PySem.Challenge.rw_mendweights_k18_bounds_told.prog) (w := w) (base := base) (ps := ["rows", "weights"]) KX G (fun _ _ _ _ _ _ => L2.len2 fun _ _ => rfl) fun f fd F => Mw.ok_sides_bound F T PR c26 c21 c14
    have c28 := d28.cal (P := PySem.Challenge.rw_mendweights_k18_bounds_told.prog) (w := w) (base := base) (ps := ["many", "some"]) KX G (fun _ _ _ _ _ _ => L2.len2 fun _ _ => rfl) fun f fd F => Mw.ok_halving_bound F T 
    have c30 := d30.cal (P := PySem.Challenge.rw_mendweights_k18_bounds_told.prog) (w := w) (base := base) (ps := ["_law_script", "_law_k"]) KX G (fun _ _ _ _ _ _ => L2.len2 fun _ _ => rfl) fun f fd F => Mw.ok__law_cell_at F T 
    have c31 := d31.cal (P := PySem.Challenge.rw_mendweights_k18_bounds_told.prog) (w := w) (base := base) (ps := ["_law_script", "_law_k"]) KX G (fun _ _ _ _ _ _ => L2.len2 fun _ _ => rfl) fun f fd F => Mw.ok__law_mixed F T c30
    have c32 := d32.cal (P := PySem.Challenge.rw_mendweights_k18_bounds_told.prog) (w := w) (base := base) (ps := ["_law_script", "_law_tops"]) KX G (fun _ _ _ _ _ _ => L2.len2 fun _ _ => rfl) fun f fd F => Mw.ok__law_drawn F T c30 c31
    have c33 := d33.cal (P := PySem.Challenge.rw_mendweights_k18_bounds_told.prog) (w := w) (base := base) (ps := ["_law_drawn_here", "_law_many", "_law_reach", "_law_rows"]) KX G (fun _ _ _ _ _ _ => L2.len4 fun _ _ _ _ => rfl) fun f fd F => Mw.ok__law_points F T 
    have c34 := d34.cal (P := PySem.Challenge.rw_mendweights_k18_bounds_told.prog) (w := w) (base := base) (ps := ["_law_weights", "_law_point"]) KX G (fun _ _ _ _ _ _ => L2.len2 fun _ _ => rfl) fun f fd F => Mw.ok__law_product F T 
    have c35 := d35.cal (P := PySem.Challenge.rw_mendweights_k18_bounds_told.prog) (w := w) (base := base) (ps := ["_law_found", "_law_due"]) KX G (fun _ _ _ _ _ _ => L2.len2 fun _ _ => rfl) fun f fd F => Mw.ok__law_is F T 
    have c36 := d36.cal (P := PySem.Challenge.rw_mendweights_k18_bounds_told.prog) (w := w) (base := base) (ps := ["_law_script", "_law_size", "_law_reach", "_law_many", "_law_order"]) KX G (fun _ _ _ _ _ _ => L2.len5 fun _ _ _ _ _ => rfl) fun f fd F => Mw.ok__law_parted F T c32 c33 c34
    have c37 := d37.cal (P := PySem.Challenge.rw_mendweights_k18_bounds_told.prog) (w := w) (base := base) (ps := ["_law_rows", "_law_weights"]) KX G (fun _ _ _ _ _ _ => L2.len2 fun _ _ => rfl) fun f fd F => Mw.ok__law_numbers_of F T c34
    have c38 := d38.cal (P := PySem.Challenge.rw_mendweights_k18_bounds_told.prog) (w := w) (base := base) (ps := ["_law_rows", "_law_weights", "_law_way"]) KX G (fun _ _ _ _ _ _ => L2.len3 fun _ _ _ => rfl) fun f fd F => Mw.ok__law_caught F T PR c24 c27 c26
    have c39 := d39.cal (P := PySem.Challenge.rw_mendweights_k18_bounds_told.prog) (w := w) (base := base) (ps := ["_law_rows", "_law_weights", "_law_several_here"]) KX G (fun _ _ _ _ _ _ => L2.len3 fun _ _ _ => rfl) fun f fd F => Mw.ok__law_not_parted F T c38
    have c40 := d40.cal (P := PySem.Challenge.rw_mendweights_k18_bounds_told.prog) (w := w) (base := base) (ps := ["_law_rows", "_law_weights", "_law_head"]) KX G (fun _ _ _ _ _ _ => L2.len3 fun _ _ _ => rfl) fun f fd F => Mw.ok__law_no_side F T c38
    have c41 := d41.cal (P := PySem.Challenge.rw_mendweights_k18_bounds_told.prog) (w := w) (base := base) (ps := ["_law_rows", "_law_weights", "_law_head"]) KX G (fun _ _ _ _ _ _ => L2.len3 fun _ _ _ => rfl) fun f fd F => Mw.ok__law_two F T c37 c35 c34 c24 c24D c24K c39
    have c42 := d42.cal (P := PySem.Challenge.rw_mendweights_k18_bounds_told.prog) (w := w) (base := base) (ps := ["_law_weights", "_law_point"]) KX G (fun _ _ _ _ _ _ => L2.len2 fun _ _ => rfl) fun f fd F => Mw.ok__law_best F T c34
    have c43 := d43.cal (P := PySem.Challenge.rw_mendweights_k18_bounds_told.prog) (w := w) (base := base) (ps := ["_law_rows", "_law_weights"]) KX G (fun _ _ _ _ _ _ => L2.len2 fun _ _ => rfl) fun f fd F => Mw.ok__law_least F T c34
    have c44 := d44.cal (P := PySem.Challenge.rw_mendweights_k18_bounds_told.prog) (w := w) (base := base) (ps := ["_law_points_here", "_law_weights", "_law_head"]) KX G (fun _ _ _ _ _ _ => L2.len3 fun _ _ _ => rfl) fun f fd F => Mw.ok__law_several F T c42 c40 c35 c43 c39 c26 c27
    have c45 := d45.cal (P := PySem.Challenge.rw_mendweights_k18_bounds_told.prog) (w := w) (base := base) (ps := ["_law_many"]) KX G (fun _ _ _ _ _ _ => L2.len1 fun _ => rfl) fun f fd F => Mw.ok__law_doublings F T 
    exact Mw.ok_law F T c30 c36 c41 c32 c44 c35 c45 c28
