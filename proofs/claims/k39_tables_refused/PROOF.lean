import PyProof.Rows.All
import Wide.All
import OpenK.AllK
import Wide.FinOn
import Lean
import PyProof.EqAt
import PyProof.EqKinds
import PyProof.TupleCall
import PyProof.NeKinds
import PySem.Challenge.RW_mendweights_k39_tables_refused
set_option Elab.async false
set_option linter.all false
set_option maxRecDepth 100000
namespace L2
open PySem PySem.Spec PyProof.Rows
abbrev Key := Sum Int Str
def keyIs : Key → Value → Bool
  | .inl k, v => Value.isInt k v
  | .inr x, v => Value.isStrOf x v
def keyH (w : World) : Key → Int
  | .inl k => hashInt k
  | .inr x => hashStr w x
theorem keyIs_shape : ∀ {k : Key} {v : Value}, keyIs k v = true → (∃ i t, k = Sum.inl i ∧ v = Value.int i t) ∨ (∃ x t, k = Sum.inr x ∧ v = Value.str x t)
  | .inl i, v, h => by
    obtain ⟨t, e⟩ := Value.isInt_shape (k := i) (v := v) h
    exact .inl ⟨i, t, rfl, e⟩
  | .inr x, v, h => by
    obtain ⟨t, e⟩ := Value.isStrOf_shape (x := x) (v := v) h
    exact .inr ⟨x, t, rfl, e⟩
theorem key_ll (a b : Int) : decide ((Sum.inl a : Key) = Sum.inl b) = (a == b) := by
  by_cases e : a = b
  · subst e; simp
  · have h : ¬ (Sum.inl a : Key) = Sum.inl b := fun q => e (Sum.inl.inj q)
    rw [decide_eq_false h]
    exact (beq_eq_false_iff_ne.mpr e).symm
theorem key_rr (a b : Str) : decide ((Sum.inr a : Key) = Sum.inr b) = decide (a = b) := by
  by_cases e : a = b
  · subst e; simp
  · have h : ¬ (Sum.inr a : Key) = Sum.inr b := fun q => e (Sum.inr.inj q)
    rw [decide_eq_false h, decide_eq_false e]
theorem key_lr (a : Int) (b : Str) : decide ((Sum.inl a : Key) = Sum.inr b) = false := decide_eq_false (fun q => nomatch q)
theorem key_rl (a : Str) (b : Int) : decide ((Sum.inr a : Key) = Sum.inl b) = false := decide_eq_false (fun q => nomatch q)
def mixKind (prog : Program) (w : World) : PySem.KeyKind prog w Key where
  is := keyIs
  hash := keyH w
  inj := fun v a b ha hb => by
    rcases keyIs_shape ha with ⟨i, t, rfl, rfl⟩ | ⟨x, t, rfl, rfl⟩
    · rcases keyIs_shape hb with ⟨j, u, rfl, e⟩ | ⟨y, u, rfl, e⟩
      · injection e with e1 _; rw [e1]
      · exact nomatch e
    · rcases keyIs_shape hb with ⟨j, u, rfl, e⟩ | ⟨y, u, rfl, e⟩
      · exact nomatch e
      · injection e with e1 _; rw [e1]
  byValue := fun k v h => by
    rcases keyIs_shape h with ⟨i, t, rfl, rfl⟩ | ⟨x, t, rfl, rfl⟩ <;> rfl
  pyHash := fun hv h => by
    rcases keyIs_shape hv with ⟨i, t, rfl, rfl⟩ | ⟨x, t, rfl, rfl⟩
    · exact wpAny_pyHash_int h
    · exact wpAny_pyHash_str h
  eqBool := fun hu hv h => by
    rcases keyIs_shape hu with ⟨i, t, rfl, rfl⟩ | ⟨x, t, rfl, rfl⟩
    · rcases keyIs_shape hv with ⟨j, u, rfl, rfl⟩ | ⟨y, u, rfl, rfl⟩
      · rw [key_ll] at h; exact wpAny_eqBool_int h
      · rw [key_lr] at h; exact SeqAt.EqAt.int_str i t y u _ _ _ _ h
    · rcases keyIs_shape hv with ⟨j, u, rfl, rfl⟩ | ⟨y, u, rfl, rfl⟩
      · rw [key_rl] at h; exact SeqAt.EqAt.str_int x t j u _ _ _ _ h
      · rw [key_rr] at h; exact wpAny_eqBool_str h
  «strs» := fun k x t v h => by
    rcases keyIs_shape h with ⟨i, u, rfl, e⟩ | ⟨y, u, rfl, e⟩
    · exact nomatch e
    · injection e with e1 _
      subst e1
      cases v <;> rfl
end L2
namespace L2
open PySem PySem.Spec PyProof.Rows
inductive V where
  | non | bl (b : Bool) | int (i : Int) | str (x : Str) | byt (b : Array UInt8) | flt (b : UInt64) | ref (a : Addr) | ty (n : String)
  deriving DecidableEq
def RelV : V → Value → Prop
  | .non, u => u = Value.none
  | .bl b, u => u = Value.bool b
  | .int i, u => ∃ t, u = Value.int i t
  | .str x, u => ∃ t, u = Value.str x t
  | .byt b, u => ∃ t, u = Value.bytes b t
  | .flt b, u => ∃ t, u = Value.float b t
  | .ref a, u => u = Value.ref a
  | .ty n, u => u = Value.type n
abbrev Vals : List V → List Value → Prop := Paired RelV
theorem Vals.length {xs : List V} {us : List Value} (r : Vals xs us) : xs.length = us.length := Paired.length r
theorem Vals.get : ∀ {xs : List V} {us : List Value} {i : Nat} {x : V}, Vals xs us → xs[i]? = some x → ∃ u, us[i]? = some u ∧ RelV x u
  | _, _, _, _, .nil, e => by simp at e
  | _, _, 0, _, .cons r _, e => by simp at e; subst e; exact ⟨_, rfl, r⟩
  | _, _, i + 1, x, .cons _ t, e => by
    obtain ⟨u, h1, h2⟩ := Vals.get (i := i) (x := x) t (by simpa using e)
    exact ⟨u, by simpa using h1, h2⟩
theorem Vals.set {x : V} {u : Value} (r : RelV x u) : ∀ {xs : List V} {us : List Value} (i : Nat), Vals xs us → Vals (xs.set i x) (us.set i u)
  | _, _, _, .nil => .nil
  | _, _, 0, .cons _ t => .cons r t
  | _, _, i + 1, .cons q t => .cons q (Vals.set r i t)
theorem Vals.append : ∀ {xs ys : List V} {us ws : List Value}, Vals xs us → Vals ys ws → Vals (xs ++ ys) (us ++ ws)
  | _, _, _, _, .nil, s => s
  | _, _, _, _, .cons r t, s => .cons r (Vals.append t s)
theorem Vals.take : ∀ {xs : List V} {us : List Value} (n : Nat), Vals xs us → Vals (xs.take n) (us.take n)
  | _, _, 0, _ => .nil
  | _, _, _ + 1, .nil => .nil
  | _, _, n + 1, .cons r t => .cons r (Vals.take n t)
theorem Vals.drop : ∀ {xs : List V} {us : List Value} (n : Nat), Vals xs us → Vals (xs.drop n) (us.drop n)
  | _, _, 0, r => r
  | _, _, _ + 1, .nil => .nil
  | _, _, n + 1, .cons _ t => Vals.drop n t
def RelO : Option V → Option Value → Prop
  | some v, some u => RelV v u
  | none, none => True
  | _, _ => False
def KV {κ : Type} : List (κ × V) → List (κ × Value) → Prop := Paired fun (p : κ × V) (q : κ × Value) => p.1 = q.1 ∧ RelV p.2 q.2
def kV : Key → V
  | .inl i => .int i
  | .inr x => .str x
inductive HO where
  /-- a list -/
  | lst (xs : List V)
  /-- a tuple (never changes) -/
  | tup (xs : List V)
  /-- a dict whose keys are ints and texts; one whose keys are tuples of ints and texts (the empty one is both) -/
  | dK (kvs : List (Key × V)) | dT (kvs : List (List Key × V))
  /-- a set of ints: its members, its size -/
  | set (S : Int → Bool) (n : Nat)
  /-- an instance of the class at C, its dict at dx, its attributes -/
  | ins (C dx : Addr) (fs : List (Str × V))
  /-- the dict of the instance at x -/
  | own (x : Addr)
  /-- the dict of an exception -/
  | xd (fs : List (Str × V))
  /-- a bound method, f of x -/
  | met (f x : Addr)
  /-- a range object lo, lo + 1, .. below hi -/
  | rng (lo hi : Int)
  /-- a thing that is known to the object (the script; a dict while a loop walks it): read, never written while it is so -/
  | frz (o : Obj) (u : HO)
  /-- a code object's table -/
  | tbl (ps : Array Value)
  /-- any other thing, by what is true of its one object (a def of one's own: SetO a S n := HO.ext fun h => ..) -/
  | ext (φ : Heap → Prop)
abbrev Hp := Addr → Option HO
def upd (H : Hp) (a : Addr) (o : HO) : Hp := fun b => if b = a then some o else H b
theorem upd_same {H : Hp} {a : Addr} {o : HO} : upd H a o a = some o := by unfold upd; rw [if_pos rfl]
theorem upd_ne {H : Hp} {a b : Addr} {o : HO} (h : b ≠ a) : upd H a o b = H b := by unfold upd; rw [if_neg h]
theorem ne_of_none {H : Hp} {a b : Addr} {o : HO} (h : H a = some o) (h' : H b = none) : a ≠ b := by
  intro e; subst e; rw [h] at h'; cases h'
section
variable (P : Program) (w : World)
def ObjOk (H : Hp) (h : Heap) (a : Addr) : HO → Prop
  | .lst xs => xs.length ≤ sizeLine ∧ ∃ (its : List Value) (n : Nat), Vals xs its ∧ h.get? a = some { cls := .type "list", data := .seq its.toArray n }
  | .tup xs => xs.length ≤ sizeLine ∧ ∃ its : List Value, Vals xs its ∧ IsTup h a its.toArray
  | .dK kvs => kvs.length ≤ sizeLine ∧ (a == sysModules) = false ∧ ∃ vs, KV kvs vs ∧ h.DictOf (mixKind P w) a vs
  | .dT kvs => kvs.length ≤ sizeLine ∧ (a == sysModules) = false ∧ ∃ xs : List (List Key × Addr × Value),
      Paired (fun (p : List Key × V) (q : List Key × Addr × Value) => p.1 = q.1 ∧ H q.2.1 = some (.tup (p.1.map kV)) ∧ RelV p.2 q.2.2) kvs xs ∧
      ∃ o es ep, h.get? a = some o ∧ o.ExactDict ∧ o.data = .dict es ep ∧ es.toList = xs.map (entryOfKey (tupleKind (mixKind P w))) ∧ (xs.map (·.1)).Nodup
  | .set S n => h.SetOf (intKind P w) a S n
  | .ins C dx fs => H dx = some (.own a) ∧ fs.length ≤ 1000 ∧ dx ≠ a ∧ h.get? a = some (PySem.W.instObj C dx) ∧
      ∃ mA, h.Ns1 dx mA ∧ (∀ f, RelO (fs.lookup f) (mA f)) ∧ PySem.Within mA (fs.map (·.1))
  | .own _ => ∃ o, h.get? a = some o
  | .xd fs => ∃ mA, h.Ns1 a mA ∧ ∀ f, RelO (fs.lookup f) (mA f)
  | .rng lo hi => ∃ t u v, h.get? a = some { cls := .type "range", data := .fields #[.int lo t, .int hi u, .int 1 v] }
  | .frz o u => h.get? a = some o ∧ ObjOk H h a u
  | .tbl ps => h.get? a = some { cls := .none, data := .fields ps }
  | .met f x => h.get? a = some (PySem.W.methodObj (.ref f) (.ref x))
  | .ext φ => φ h ∧ (∃ o, h.get? a = some o) ∧ ∀ h1 h2 : Heap, φ h1 → (∀ o, h1.get? a = some o → h2.get? a = some o) → φ h2
def HOk (H : Hp) (h : Heap) : Prop := ∀ a o, H a = some o → ObjOk P w H h a o
end
section
variable {P : Program} {w : World} {H H' : Hp} {h h' : Heap} {a : Addr} {o : HO}
theorem ObjOk.lt (x : ObjOk P w H h a o) : a < h.objs.size := by
  cases o with
  | lst xs => obtain ⟨_, _, _, _, e⟩ := x; exact Heap.lt_size e
  | tup xs => obtain ⟨_, _, _, p⟩ := x; exact p.lt
  | dK kvs => obtain ⟨_, _, _, _, o, _, _, e, _⟩ := x; exact Heap.lt_size e
  | dT kvs => obtain ⟨_, _, _, _, o, _, _, e, _⟩ := x; exact Heap.lt_size e
  | set S n => obtain ⟨o, _, _, _, e, _⟩ := x; exact Heap.lt_size e
  | ins C dx fs => obtain ⟨_, _, _, e, _⟩ := x; exact Heap.lt_size e
  | own y => obtain ⟨_, e⟩ := x; exact Heap.lt_size e
  | xd fs => obtain ⟨_, ⟨_, _, _, e, _⟩, _⟩ := x; exact Heap.lt_size e
  | rng lo hi => obtain ⟨_, _, _, e⟩ := x; exact Heap.lt_size e
  | frz ob u => obtain ⟨e, _⟩ := x; exact Heap.lt_size e
  | tbl ps => exact Heap.lt_size (show h.get? a = some _ from x)
  | met f y => exact Heap.lt_size (show h.get? a = some _ from x)
  | ext φ => obtain ⟨_, ⟨_, e⟩, _⟩ := x; exact Heap.lt_size e
theorem Paired.mapP {α β : Type} {F G : α → β → Prop} : ∀ {l₁ : List α} {l₂ : List β}, Paired F l₁ l₂ → (∀ a b, F a b → G a b) → Paired G l₁ l₂
  | _, _, .nil, _ => .nil
  | _, _, .cons r t, f => .cons (f _ _ r) (Paired.mapP t f)
theorem ObjOk.stay (x : ObjOk P w H h a o) (k : ∀ b u, (b = a ∨ H b = some (.own a)) → h.get? b = some u → h'.get? b = some u)
    (ho : ∀ b, H b = some (.own a) → H' b = some (.own a)) (ht : ∀ b xs, H b = some (.tup xs) → H' b = some (.tup xs)) : ObjOk P w H' h' a o := by
  induction o with
  | lst xs => obtain ⟨z, its, n, r, e⟩ := x; exact ⟨z, its, n, r, k _ _ (.inl rfl) e⟩
  | tup xs => obtain ⟨z, its, r, ob, e, c⟩ := x; exact ⟨z, its, r, ob, k _ _ (.inl rfl) e, c⟩
  | dK kvs => obtain ⟨z, y, vs, r, ob, es, ep, e, c⟩ := x; exact ⟨z, y, vs, r, ob, es, ep, k _ _ (.inl rfl) e, c⟩
  | dT kvs =>
    obtain ⟨z, y, xs, r, ob, es, ep, e, c⟩ := x
    exact ⟨z, y, xs, Paired.mapP r fun p q z => ⟨z.1, ht _ _ z.2.1, z.2.2⟩, ob, es, ep, k _ _ (.inl rfl) e, c⟩
  | set S n => obtain ⟨ob, es, ep, t, e, c⟩ := x; exact ⟨ob, es, ep, t, k _ _ (.inl rfl) e, c⟩
  | ins C dx fs =>
    obtain ⟨d, z, ne, e, mA, ⟨od, es, ep, e2, c⟩, r⟩ := x
    exact ⟨ho _ d, z, ne, k _ _ (.inl rfl) e, mA, ⟨od, es, ep, k _ _ (.inr d) e2, c⟩, r⟩
  | own y => obtain ⟨ob, e⟩ := x; exact ⟨ob, k _ _ (.inl rfl) e⟩
  | xd fs => obtain ⟨mA, ⟨od, es, ep, e, c⟩, r⟩ := x; exact ⟨mA, ⟨od, es, ep, k _ _ (.inl rfl) e, c⟩, r⟩
  | rng lo hi => obtain ⟨t, u, v, e⟩ := x; exact ⟨t, u, v, k _ _ (.inl rfl) e⟩
  | frz ob u ih => obtain ⟨e, q⟩ := x; exact ⟨k _ _ (.inl rfl) e, ih q⟩
  | tbl ps =>
    have e : h.get? a = some { cls := .none, data := .fields ps } := x
    show h'.get? a = some { cls := .none, data := .fields ps }
    exact k a _ (.inl rfl) e
  | met f y =>
    have e : h.get? a = some (PySem.W.methodObj (.ref f) (.ref y)) := x
    show h'.get? a = some (PySem.W.methodObj (.ref f) (.ref y))
    exact k a _ (.inl rfl) e
  | ext φ => obtain ⟨p, ⟨o, e⟩, st⟩ := x; exact ⟨st _ _ p fun o q => k _ _ (.inl rfl) q, ⟨o, k _ _ (.inl rfl) e⟩, st⟩
theorem HOk.lt (x : HOk P w H h) (e : H a = some o) : a < h.objs.size := (x a o e).lt
theorem HOk.fresh (x : HOk P w H h) (e : h.objs.size ≤ a) : H a = none := by
  cases q : H a with
  | none => rfl
  | some u => exact absurd (Nat.lt_of_lt_of_le (x.lt q) e) (Nat.lt_irrefl _)
theorem HOk.kept (x : HOk P w H h) (k : ∀ b u, h.get? b = some u → h'.get? b = some u) : HOk P w H h' := fun a o e =>
  (x a o e).stay (fun b u _ q => k b u q) (fun _ q => q) fun _ _ q => q
theorem HOk.laid (x : HOk P w H h) (k : ∀ b u, h.get? b = some u → h'.get? b = some u) (hp : h.objs.size ≤ a) (new : ObjOk P w (upd H a o) h' a o) : HOk P w (upd H a o) h' := fun b u e => by
  have hn := x.fresh hp
  by_cases hb : b = a
  · subst hb; rw [upd_same] at e; cases e; exact new
  · rw [upd_ne hb] at e
    exact (x b u e).stay (fun c v _ q => k c v q) (fun c q => by rw [upd_ne (ne_of_none q hn)]; exact q) fun c xs q => by rw [upd_ne (ne_of_none q hn)]; exact q
end
def Rd (H : Hp) (a : Addr) (u : HO) : Prop := H a = some u ∨ ∃ o, H a = some (.frz o u)
theorem Rd.of {H : Hp} {a : Addr} {u : HO} (h : H a = some u) : Rd H a u := .inl h
theorem Rd.ok {P : Program} {w : World} {H : Hp} {h : Heap} {a : Addr} {u : HO} (r : Rd H a u) (x : HOk P w H h) : ObjOk P w H h a u := by
  rcases r with r | ⟨o, r⟩
  · exact x a u r
  · obtain ⟨_, q⟩ := x a _ r
    exact q
def Mut : Option HO → Prop
  | some (.lst _) => True
  | some (.dK _) => True
  | some (.dT _) => True
  | some (.set _ _) => True
  | some (.ins _ _ _) => True
  | some (.ext _) => True
  | _ => False
section
variable {P : Program} {w : World} {H : Hp} {h h' : Heap} {x e : Addr} {o' : HO}
theorem HOk.write (ok : HOk P w H h) (mu : Mut (H x)) (he : e = x ∨ H e = some (.own x)) (k : ∀ b u, b ≠ e → h.get? b = some u → h'.get? b = some u) (heo : ∃ u, h'.get? e = some u)
    (new : ObjOk P w (upd H x o') h' x o') : HOk P w (upd H x o') h' := fun b u q => by
  have nown : ∀ c y, H c = some (.own y) → c ≠ x := fun c y r z => by subst z; rw [r] at mu; exact mu
  have ntup : ∀ c xs, H c = some (.tup xs) → c ≠ x := fun c xs r z => by subst z; rw [r] at mu; exact mu
  by_cases hb : b = x
  · subst hb; rw [upd_same] at q; cases q; exact new
  · rw [upd_ne hb] at q
    by_cases hbe : b = e
    · have q' : H b = some (.own x) := by
        rcases he with z | z
        · exact absurd (hbe.trans z) hb
        · rw [hbe]; exact z
      rw [q] at q'; cases q'
      obtain ⟨v, hv⟩ := heo
      exact ⟨v, by rw [hbe]; exact hv⟩
    · refine (ok b u q).stay (fun c v hc r => k c v ?_ r) (fun c r => by rw [upd_ne (nown c b r)]; exact r) fun c xs r => by rw [upd_ne (ntup c xs r)]; exact r
      rcases hc with rfl | hc
      · exact hbe
      · rintro rfl
        rcases he with z | z
        · exact nown c b hc z
        · rw [hc] at z; cases z; exact hb rfl
end
structure Un (fs ex : List Addr) (H H' : Hp) (h h' : Heap) : Prop where
  keep : ∀ b o, h.get? b = some o → H b = none → b ∉ fs → b ∉ ex → h'.get? b = some o
  slot : ∀ b o, h.get? b = some o → H b = none → b ∈ fs → b ∉ ex → ∃ sl, h'.get? b = some { o with slots := sl }
  free : ∀ b o, h.get? b = some o → H b = none → b ∉ ex → H' b = none
  there : ∀ b o, h.get? b = some o → b ∉ ex → ∃ o', h'.get? b = some o'
  tups : ∀ b xs, H b = some (.tup xs) → H' b = some (.tup xs)
  frzs : ∀ b o u, H b = some (.frz o u) → H' b = some (.frz o u)
  tbls : ∀ b ps, H b = some (.tbl ps) → ∃ more, H' b = some (.tbl (ps ++ more))
section
variable {fs fs' ex ex' : List Addr} {H H1 H2 : Hp} {h h1 h2 h' : Heap} {a x e : Addr} {o : HO}
theorem Un.any (u : Un fs ex H H1 h h1) {b : Addr} {ob : Obj} (q : h.get? b = some ob) (n : H b = none) (hx : b ∉ ex) : ∃ sl, h1.get? b = some { ob with slots := sl } := by
  by_cases hb : b ∈ fs
  · exact u.slot b ob q n hb hx
  · exact ⟨ob.slots, u.keep b ob q n hb hx⟩
theorem Un.trans (a : Un fs ex H H1 h h1) (b : Un fs ex H1 H2 h1 h2) : Un fs ex H H2 h h2 where
  keep := fun c ob q n hc hx => b.keep c ob (a.keep c ob q n hc hx) (a.free c ob q n hx) hc hx
  slot := fun c ob q n hc hx => by
    obtain ⟨sl, e1⟩ := a.slot c ob q n hc hx
    obtain ⟨sl', e2⟩ := b.slot c _ e1 (a.free c ob q n hx) hc hx
    exact ⟨sl', e2⟩
  free := fun c ob q n hx => by
    obtain ⟨o', e1⟩ := a.there c ob q hx
    exact b.free c o' e1 (a.free c ob q n hx) hx
  there := fun c ob q hx => by
    obtain ⟨o', e1⟩ := a.there c ob q hx
    exact b.there c o' e1 hx
  tups := fun c xs q => b.tups c xs (a.tups c xs q)
  frzs := fun c ob xs q => b.frzs c ob xs (a.frzs c ob xs q)
  tbls := fun c ps q => by
    obtain ⟨m1, e1⟩ := a.tbls c ps q
    obtain ⟨m2, e2⟩ := b.tbls c _ e1
    exact ⟨m1 ++ m2, by rw [e2, Array.append_assoc]⟩
theorem Un.kept (k : ∀ b u, h.get? b = some u → h'.get? b = some u) : Un fs ex H H h h' :=
  ⟨fun b ob q _ _ _ => k b ob q, fun b ob q _ _ _ => ⟨ob.slots, k b ob q⟩, fun _ _ _ n _ => n, fun b ob q _ => ⟨ob, k b ob q⟩, fun _ _ q => q, fun _ _ _ q => q, fun _ ps q => ⟨#[], by rw [q]; simp⟩⟩
theorem Un.refl : Un fs ex H H h h := Un.kept fun _ _ q => q
theorem Un.laid (k : ∀ b u, h.get? b = some u → h'.get? b = some u) (hp : h.objs.size ≤ a) (hn : H a = none) : Un fs ex H (upd H a o) h h' where
  keep := fun b u q _ _ _ => k b u q
  slot := fun b u q _ _ _ => ⟨u.slots, k b u q⟩
  free := fun b u q n _ => by rw [upd_ne (Nat.ne_of_lt (Nat.lt_of_lt_of_le (Heap.lt_size q) hp))]; exact n
  there := fun b u q _ => ⟨u, k b u q⟩
  tups := fun b xs q => by rw [upd_ne (ne_of_none q hn)]; exact q
  frzs := fun b u xs q => by rw [upd_ne (ne_of_none q hn)]; exact q
  tbls := fun b ps q => ⟨#[], by rw [upd_ne (ne_of_none q hn), q]; simp⟩
theorem Un.write (mu : Mut (H x)) (he : e = x ∨ H e = some (.own x)) (k : ∀ b u, b ≠ e → h.get? b = some u → h'.get? b = some u) (heo : ∃ u, h'.get? e = some u) : Un fs ex H (upd H x o) h h' := by
  have hx : ∀ b, H b = none → b ≠ x := fun b n z => by subst z; rw [n] at mu; exact mu
  have hb : ∀ b, H b = none → b ≠ e := fun b n z => by
    subst z
    rcases he with r | r
    · exact hx b n r
    · rw [n] at r; cases r
  have hm : ∀ b u, H b = some u → ¬ Mut (some u) → b ≠ x := fun b u q nm z => by subst z; rw [q] at mu; exact nm mu
  refine ⟨fun b u q n _ _ => k b u (hb b n) q, fun b u q n _ _ => ⟨u.slots, k b u (hb b n) q⟩, fun b u q n _ => by rw [upd_ne (hx b n)]; exact n, fun b u q _ => ?_,
    fun b xs q => by rw [upd_ne (hm b _ q fun z => z)]; exact q, fun b u xs q => by rw [upd_ne (hm b _ q fun z => z)]; exact q, fun b ps q => ⟨#[], by rw [upd_ne (hm b _ q fun z => z), q]; simp⟩⟩
  by_cases hbe : b = e
  · subst hbe; exact heo
  · exact ⟨u, k b u hbe q⟩
theorem Un.mono (u : Un fs ex H H1 h h1) (hs : ∀ b ∈ fs, b ∈ fs') (hx : ∀ b ∈ ex, b ∈ ex') : Un fs' ex' H H1 h h1 :=
  ⟨fun b ob q n hb he => u.keep b ob q n (fun z => hb (hs b z)) fun z => he (hx b z), fun _ _ q n _ he => u.any q n fun z => he (hx _ z), fun b ob q n he => u.free b ob q n fun z => he (hx b z), fun b ob q he => u.there b ob q fun z => he (hx b z), u.tups, u.frzs, u.tbls⟩
end
def trk (h : Heap) (H : Hp) : List Addr := (List.range h.objs.size).filter fun a => (H a).isSome
def hidT (h : Heap) (H : Hp) : Heap := PySem.W.hideAll h (trk h H)
theorem hidT_size (h : Heap) (H : Hp) : (hidT h H).objs.size = h.objs.size := PySem.W.hideAll_size _ _
theorem hidT_get {h : Heap} {H : Hp} {b : Addr} {o : Obj} (e : h.get? b = some o) (n : H b = none) : (hidT h H).get? b = some o :=
  PySem.W.hideAll_get _ e fun hm => by
    have q : (H b).isSome = true := (List.mem_filter.mp hm).2
    rw [n] at q; simp at q
theorem of_hidT {h : Heap} {H : Hp} {b : Addr} {o : Obj} (e : (hidT h H).get? b = some o) : h.get? b = some o ∧ H b = none := by
  have e' : h.get? b = some o := PySem.W.of_hideAll (trk h H) e
  refine ⟨e', ?_⟩
  cases q : H b with
  | none => rfl
  | some x =>
    have hm : b ∈ trk h H := List.mem_filter.mpr ⟨List.mem_range.mpr (Heap.lt_size e'), by simp [q]⟩
    have z : (hidT h H).get? b = none := PySem.W.hideAll_none (trk h H) hm
    rw [z] at e; cases e
def allNews (g h : Heap) (L : Addr) : List (Addr × Obj) := (List.range h.objs.size).filterMap fun a => if a = L ∨ (g.get? a).isSome = true then none else (h.get? a).map fun o => (a, o)
def rest (g h : Heap) (L d : Addr) : List (Addr × Obj) := (allNews g h L).filter fun p => decide (p.1 ≠ d)
end L2
namespace L2
open PySem PySem.Spec PyProof.Rows
structure Mod (K : PySem.W.Frag) (mg : Str → Option Value) (base : Heap) : Prop where
  kin : K.In base
  glob : base.Ns mainGlobals mg
  blt : ∃ mb, base.Ns builtinsNs mb ∧ ∀ x : Str, x ≠ "__name__" → mb x = bootBuiltins x
  nolimit : base.NoLimit
structure Cx where
  prog : Program
  w : World
  K : PySem.W.Frag
  mg : Str → Option Value
  base : Heap
  A : Around
  N : List Str
  s₀ : Shared
  H₀ : Hp
  env : Env
  outer : List Env
  stack : List Env
  ex : List Addr
  fn : Str → Bool
  calm : Bool
  pn : List (Addr × Obj)
  xe : Value → Shared → Prop
def frs (l : List Env) : List Addr := l.filterMap (·.frame)
abbrev Cx.fs (X : Cx) : List Addr := frs X.outer
def Vis (sc : Scope) (x : Str) : Prop := sc.names.lookup x = some .local ∨ sc.names.lookup x = some .cell ∨ sc.names.lookup x = some .free
def Loc (sc : Scope) (x : Str) : Prop := sc.names.lookup x = some .local ∨ sc.names.lookup x = some .cell
def Look (env : Env) (h : Heap) (m : Str → Option Value) (x : Str) (u : Value) : Prop :=
  (env.kindOf x = some .local ∧ m x = some u) ∨ ((env.kindOf x = some .cell ∨ env.kindOf x = some .free) ∧ ∃ c, env.cells.lookup x = some c ∧ h.IsCell c (some u))
structure Cx.Ok (X : Cx) : Prop where
  mod : Mod X.K X.mg X.base
  kind : X.env.scope.kind = .function
  glob : X.env.globals = mainGlobals
  blt : X.env.builtins = builtinsNs
  above : X.s₀.heap.objs.size ≤ X.env.locals
  inj : ∀ x y c, X.env.cells.lookup x = some c → X.env.cells.lookup y = some c → x = y
  has : ∀ x, (X.env.kindOf x = some .cell ∨ X.env.kindOf x = some .free) → ∃ c, X.env.cells.lookup x = some c
  cab : ∀ x c, X.fn x = true → X.env.cells.lookup x = some c → X.s₀.heap.objs.size ≤ c
  hd : X.calm = true → X.A.handled = none
  frames : X.A.frames = some X.stack
  stk : X.stack = X.outer ∨ (X.stack = X.env :: X.outer ∧ X.env.frame = some X.env.locals)
  exf : ∀ b ∈ X.ex, b ≠ X.env.locals ∧ ∀ x c, X.env.cells.lookup x = some c → c ≠ b
  bs : ∀ b o, X.base.get? b = some o → X.s₀.heap.get? b = some o ∧ X.H₀ b = none
  bsz : X.base.objs.size ≤ X.s₀.heap.objs.size
  noex : ∀ b o, X.base.get? b = some o → b ∉ X.ex
  exfs : ∀ b ∈ X.ex, b ∉ X.fs
  funs : X.s₀.heap.FunFrames X.base X.outer
  frf : ∀ b ∈ X.fs, X.H₀ b = none
structure Inv (X : Cx) (pins : List (Addr × Obj)) (σ : List (Option V)) (H : Hp) (s : Shared) : Prop where
  ok : X.Ok
  os : s.os = X.s₀.os
  bare : AllBare s.gens
  base : Un X.fs X.ex X.H₀ H X.s₀.heap s.heap
  loc : ∃ m, s.heap.Ns X.env.locals m ∧ ∀ (i : Nat) (x : Str) (v : V), X.N[i]? = some x → σ[i]? = some (some v) → Vis X.env.scope x → ∃ u, RelV v u ∧ Look X.env s.heap m x u
  cell : ∀ x c, X.env.cells.lookup x = some c → ∃ v, s.heap.IsCell c v
  free : H X.env.locals = none
  freeC : ∀ x c, X.env.cells.lookup x = some c → H c = none
  pin : ∀ p ∈ X.pn ++ pins, s.heap.get? p.1 = some p.2 ∧ H p.1 = none ∧ p.1 ≠ X.env.locals ∧ p.1 ∉ X.fs ∧ ∀ v, p.2.data ≠ .cell v
  hok : HOk X.prog X.w H s.heap
  len : σ.length = X.N.length
section
variable {X : Cx} {pins : List (Addr × Obj)} {σ : List (Option V)} {H H' : Hp} {s : Shared} {h' : Heap}
theorem Cx.Ok.nofr (ok : X.Ok) {b : Addr} {o : Obj} (e : X.base.get? b = some o) : b ∉ X.fs := fun hb => by
  have := (ok.funs.mem hb).1
  rw [e] at this; cases this
theorem Inv.bs (I : Inv X pins σ H s) : ∀ b o, X.base.get? b = some o → s.heap.get? b = some o ∧ H b = none := fun b o e =>
  ⟨I.base.keep b o (I.ok.bs b o e).1 (I.ok.bs b o e).2 (I.ok.nofr e) (I.ok.noex b o e), I.base.free b o (I.ok.bs b o e).1 (I.ok.bs b o e).2 (I.ok.noex b o e)⟩
theorem Inv.bk (I : Inv X pins σ H s) : ∀ b o, X.base.get? b = some o → s.heap.get? b = some o := fun b o e => (I.bs b o e).1
theorem Inv.mod (I : Inv X pins σ H s) : Mod X.K X.mg X.base := I.ok.mod
theorem Inv.kIn (I : Inv X pins σ H s) : X.K.In s.heap := I.ok.mod.kin.keeps I.bk
theorem Inv.nolimit (I : Inv X pins σ H s) : s.heap.NoLimit := I.ok.mod.nolimit.keeps I.bk
theorem Inv.fr (I : Inv X pins σ H s) : ∃ m, Fr X.base X.env.locals s.heap m :=
  let ⟨m, hn, _⟩ := I.loc
  ⟨m, hn, I.bk, Nat.le_trans I.ok.bsz I.ok.above⟩
theorem Inv.lt (I : Inv X pins σ H s) : X.env.locals < s.heap.objs.size := let ⟨_, hn, _⟩ := I.loc; hn.lt
theorem Inv.sz (I : Inv X pins σ H s) : X.s₀.heap.objs.size ≤ s.heap.objs.size := Nat.le_trans I.ok.above (Nat.le_of_lt I.lt)
theorem Inv.nofs (I : Inv X pins σ H s) {a : Addr} (h : s.heap.objs.size ≤ a) : a ∉ X.fs := fun hb => by
  obtain ⟨_, o, ho, _⟩ := I.ok.funs.mem hb
  exact absurd (Nat.lt_of_lt_of_le (Heap.lt_size ho) (Nat.le_trans I.sz h)) (Nat.lt_irrefl _)
theorem Inv.cne (I : Inv X pins σ H s) : ∀ x c, X.env.cells.lookup x = some c → c ≠ X.env.locals := fun x c e z => by
  obtain ⟨v, o, ho, hd⟩ := I.cell x c e
  obtain ⟨m, ⟨o', es, ep, ho', hd', _⟩, _⟩ := I.loc
  rw [z, ho'] at ho; cases ho; rw [hd'] at hd; cases hd
theorem Inv.funs (I : Inv X pins σ H s) : s.heap.FunFrames X.base X.outer := by
  have all : ∀ (l : List Env), (∀ b ∈ frs l, b ∈ X.fs) → X.s₀.heap.FunFrames X.base l → s.heap.FunFrames X.base l := by
    intro l
    induction l with
    | nil => intro _ _; trivial
    | cons env r ih =>
      intro hs hl
      obtain ⟨hk, ⟨L, o, hf, hn, ho, hd⟩, hr⟩ := hl
      have hL : L ∈ X.fs := hs L (by unfold frs; rw [List.filterMap_cons, hf]; exact List.mem_cons_self)
      obtain ⟨sl, e⟩ := I.base.slot L o ho (I.ok.frf L hL) hL fun z => I.ok.exfs L z hL
      exact ⟨hk, ⟨L, _, hf, hn, e, hd⟩, ih (fun b hb => hs b (by unfold frs; rw [List.filterMap_cons, hf]; exact List.mem_cons_of_mem _ hb)) hr⟩
  exact all X.outer (fun _ hb => hb) I.ok.funs
theorem Inv.stack (I : Inv X pins σ H s) : s.heap.FunFrames X.base X.stack := by
  rcases I.ok.stk with e | ⟨e, hf⟩
  · rw [e]; exact I.funs
  · rw [e]
    obtain ⟨m, hn, _⟩ := I.loc
    refine .cons (by rw [I.ok.kind]; decide) hf hn ?_ I.funs
    exact Heap.get?_none_of_le (Nat.le_trans I.ok.bsz I.ok.above)
theorem Inv.stkSub (I : Inv X pins σ H s) : ∀ b ∈ frs X.stack, b ∈ X.env.locals :: X.fs := fun b hb => by
  rcases I.ok.stk with e | ⟨e, hf⟩
  · rw [e] at hb; exact List.mem_cons_of_mem _ hb
  · rw [e] at hb
    unfold frs at hb
    rw [List.filterMap_cons, hf] at hb
    exact hb
theorem Inv.stkFree (I : Inv X pins σ H s) : ∀ b ∈ frs X.stack, H b = none := fun b hb => by
  rcases List.mem_cons.mp (I.stkSub b hb) with e | hb
  · rw [e]; exact I.free
  · obtain ⟨_, o, ho, _⟩ := I.ok.funs.mem hb
    exact I.base.free b o ho (I.ok.frf b hb) fun z => I.ok.exfs b z hb
theorem Inv.step {g' : Array GenState} {t' : Nat} {d' : Drawn} {ch : List Addr} (I : Inv X pins σ H s)
    (hch : ∀ b ∈ ch, (b ∈ X.ex ∨ X.s₀.heap.objs.size ≤ b) ∧ b ≠ X.env.locals ∧ (∀ x c, X.env.cells.lookup x = some c → c ≠ b) ∧ ∀ p ∈ X.pn ++ pins, p.1 ≠ b)
    (keep : ∀ b o, b ≠ X.env.locals → b ∉ X.fs → b ∉ ch → s.heap.get? b = some o → H b = none → h'.get? b = some o)
    (slot : ∀ b o, b ≠ X.env.locals → b ∈ X.fs → b ∉ ch → s.heap.get? b = some o → H b = none → ∃ sl, h'.get? b = some { o with slots := sl }) (free : ∀ b o, b ∉ ch → s.heap.get? b = some o → H b = none → H' b = none)
    (there : ∀ b o, b ∉ ch → s.heap.get? b = some o → ∃ o', h'.get? b = some o')
    (tups : ∀ b xs, H b = some (.tup xs) → H' b = some (.tup xs)) (frzs : ∀ b o u, H b = some (.frz o u) → H' b = some (.frz o u)) (tbls : ∀ b ps, H b = some (.tbl ps) → ∃ more, H' b = some (.tbl (ps ++ more)))
    (ns : ∀ m, s.heap.Ns X.env.locals m → h'.Ns X.env.locals m) (hok : HOk X.prog X.w H' h') (hg : AllBare g') :
    Inv X pins σ H' { s with heap := h', gens := g', drawn := d', toks := t' } := by
  have neL : ∀ b o, X.s₀.heap.get? b = some o → b ≠ X.env.locals := fun b o e => Nat.ne_of_lt (Nat.lt_of_lt_of_le (Heap.lt_size e) I.ok.above)
  have neC : ∀ b o, X.s₀.heap.get? b = some o → b ∉ X.ex → b ∉ ch := fun b o e hx hb => by
    rcases (hch b hb).1 with z | z
    · exact hx z
    · exact absurd (Nat.lt_of_lt_of_le (Heap.lt_size e) z) (Nat.lt_irrefl _)
  have cellK : ∀ x c, X.env.cells.lookup x = some c → ∀ v, s.heap.IsCell c v → h'.IsCell c v := fun x c e v ⟨o, ho, hd⟩ => by
    have nch : c ∉ ch := fun z => (hch c z).2.2.1 x c e rfl
    by_cases hc : c ∈ X.fs
    · obtain ⟨sl, q⟩ := slot c o (I.cne x c e) hc nch ho (I.freeC x c e)
      exact ⟨_, q, hd⟩
    · exact ⟨o, keep c o (I.cne x c e) hc nch ho (I.freeC x c e), hd⟩
  refine ⟨I.ok, I.os, hg, ⟨fun b o e n hb hx => ?_, fun b o e n hb hx => ?_, fun b o e n hx => ?_, fun b o e hx => ?_, fun b xs e => tups b xs (I.base.tups b xs e), fun b o xs e => frzs b o xs (I.base.frzs b o xs e), fun b ps e => ?_⟩, ?_, fun x c e => ?_, ?_, fun x c e => ?_, fun p hp => ?_, hok, I.len⟩
  · exact keep b o (neL b o e) hb (neC b o e hx) (I.base.keep b o e n hb hx) (I.base.free b o e n hx)
  · obtain ⟨sl, e1⟩ := I.base.slot b o e n hb hx
    obtain ⟨sl', e2⟩ := slot b _ (neL b o e) hb (neC b o e hx) e1 (I.base.free b o e n hx)
    exact ⟨sl', e2⟩
  · obtain ⟨o', e1⟩ := I.base.there b o e hx
    exact free b o' (neC b o e hx) e1 (I.base.free b o e n hx)
  · obtain ⟨o', e1⟩ := I.base.there b o e hx
    exact there b o' (neC b o e hx) e1
  · obtain ⟨m1, e1⟩ := I.base.tbls b ps e
    obtain ⟨m2, e2⟩ := tbls b _ e1
    exact ⟨m1 ++ m2, by rw [e2, Array.append_assoc]⟩
  · obtain ⟨m, hn, hl⟩ := I.loc
    refine ⟨m, ns m hn, fun i x v e1 e2 e3 => ?_⟩
    obtain ⟨u, r, l⟩ := hl i x v e1 e2 e3
    refine ⟨u, r, ?_⟩
    rcases l with l | ⟨k, c, e, z⟩
    · exact .inl l
    · exact .inr ⟨k, c, e, cellK x c e _ z⟩
  · obtain ⟨v, z⟩ := I.cell x c e
    exact ⟨v, cellK x c e v z⟩
  · obtain ⟨m, ⟨o, _, _, ho, _⟩, _⟩ := I.loc
    exact free _ o (fun z => (hch _ z).2.1 rfl) ho I.free
  · obtain ⟨v, o, ho, hd⟩ := I.cell x c e
    exact free c o (fun z => (hch c z).2.2.1 x c e rfl) ho (I.freeC x c e)
  · obtain ⟨e, n, ne, nf, d⟩ := I.pin p hp
    have nch : p.1 ∉ ch := fun z => (hch p.1 z).2.2.2 p hp rfl
    exact ⟨keep p.1 p.2 ne nf nch e n, free p.1 p.2 nch e n, ne, nf, d⟩
theorem Inv.un {t' : Nat} (I : Inv X pins σ H s) (u : Un X.fs [] H H' s.heap h') (hok : HOk X.prog X.w H' h') : Inv X pins σ H' { s with heap := h', toks := t' } := by
  obtain ⟨m, ⟨o, es, ep, ho, r⟩, _⟩ := id I.loc
  obtain ⟨sl, hL⟩ := u.any ho I.free (by simp)
  exact I.step (g' := s.gens) (d' := s.drawn) (ch := []) (fun _ z => nomatch z) (fun b o _ hb _ e n => u.keep b o e n hb (by simp)) (fun b o _ hb _ e n => u.slot b o e n hb (by simp)) (fun b o _ e n => u.free b o e n (by simp)) (fun b o _ e => u.there b o e (by simp)) u.tups u.frzs u.tbls (fun m' hm => by
    obtain ⟨o', es', ep', ho', r'⟩ := hm
    rw [ho] at ho'; cases ho'
    exact ⟨_, es', ep', hL, r'⟩) hok I.bare
theorem Inv.call {g' : Array GenState} {t' : Nat} {d' : Drawn} {ch : List Addr} (I : Inv X pins σ H s) (u : Un (frs X.stack) ch H H' s.heap h') (hok : HOk X.prog X.w H' h') (hg : AllBare g')
    (hch : ∀ b ∈ ch, (b ∈ X.ex ∨ X.s₀.heap.objs.size ≤ b) ∧ b ≠ X.env.locals ∧ (∀ x c, X.env.cells.lookup x = some c → c ≠ b) ∧ ∀ p ∈ X.pn ++ pins, p.1 ≠ b) :
    Inv X pins σ H' { s with heap := h', gens := g', drawn := d', toks := t' } := by
  obtain ⟨m, ⟨o, es, ep, ho, r⟩, _⟩ := id I.loc
  obtain ⟨sl, hL⟩ := u.any ho I.free fun z => (hch _ z).2.1 rfl
  exact I.step (ch := ch) hch (fun b o hL hb hc e n => u.keep b o e n (fun z => (List.mem_cons.mp (I.stkSub b z)).elim hL hb) hc) (fun b o _ _ hc e n => u.any e n hc) (fun b o hc e n => u.free b o e n hc) (fun b o hc e => u.there b o e hc) u.tups u.frzs u.tbls (fun m' hm => by
    obtain ⟨o', es', ep', ho', r'⟩ := hm
    rw [ho] at ho'; cases ho'
    exact ⟨_, es', ep', hL, r'⟩) hok hg
theorem Inv.turned {t' : Nat} {it : Addr} (I : Inv X pins σ H s) (k : ∀ b o, b ≠ it → s.heap.get? b = some o → h'.get? b = some o) (hn : H it = none) (hL : it ≠ X.env.locals)
    (h1 : it ∈ X.ex ∨ X.s₀.heap.objs.size ≤ it) (h2 : ∀ x c, X.env.cells.lookup x = some c → c ≠ it) (h3 : ∀ p ∈ X.pn ++ pins, p.1 ≠ it) : Inv X pins σ H { s with heap := h', toks := t' } := by
  have nit : ∀ b u, H b = some u → b ≠ it := fun b u e z => by rw [z, hn] at e; cases e
  refine I.step (g' := s.gens) (d' := s.drawn) (ch := [it]) (fun b hb => ?_) (fun b o _ _ hc e _ => k b o (fun z => hc (by simp [z])) e) (fun b o _ _ hc e _ => ⟨o.slots, k b o (fun z => hc (by simp [z])) e⟩) (fun _ _ _ _ n => n)
    (fun b o hc e => ⟨o, k b o (fun z => hc (by simp [z])) e⟩) (fun _ _ e => e) (fun _ _ _ e => e) (fun b ps e => ⟨#[], by rw [e]; simp⟩) (fun m hm => ?_) (fun b u e => ?_) I.bare
  · have e : b = it := by simpa using hb
    subst e
    exact ⟨h1, hL, h2, h3⟩
  · obtain ⟨o, es, ep, ho, r⟩ := hm
    exact ⟨o, es, ep, k _ o (Ne.symm hL) ho, r⟩
  · refine (I.hok b u e).stay (fun c v hc q => k c v ?_ q) (fun _ q => q) fun _ _ q => q
    rcases hc with z | z
    · rw [z]; exact nit b u e
    · exact nit c _ z
theorem Inv.tok (I : Inv X pins σ H s) (t : Nat) : Inv X pins σ H { s with toks := t } := I.un (h' := s.heap) (t' := t) Un.refl I.hok
theorem Inv.kept {t' : Nat} (I : Inv X pins σ H s) (k : ∀ b u, s.heap.get? b = some u → h'.get? b = some u) : Inv X pins σ H { s with heap := h', toks := t' } := I.un (Un.kept k) (I.hok.kept k)
theorem Inv.laid {a : Addr} {o : HO} {t' : Nat} (I : Inv X pins σ H s) (k : ∀ b u, s.heap.get? b = some u → h'.get? b = some u) (hp : s.heap.objs.size ≤ a) (new : ObjOk X.prog X.w (upd H a o) h' a o) :
    Inv X pins σ (upd H a o) { s with heap := h', toks := t' } := I.un (Un.laid k hp (I.hok.fresh hp)) (I.hok.laid k hp new)
theorem Inv.write {x e : Addr} {o : HO} {t' : Nat} (I : Inv X pins σ H s) (mu : Mut (H x)) (he : e = x ∨ H e = some (.own x)) (k : ∀ b u, b ≠ e → s.heap.get? b = some u → h'.get? b = some u) (heo : ∃ u, h'.get? e = some u)
    (new : ObjOk X.prog X.w (upd H x o) h' x o) : Inv X pins σ (upd H x o) { s with heap := h', toks := t' } := I.un (Un.write mu he k heo) (I.hok.write mu he k heo new)
theorem Inv.weak {σ' : List (Option V)} (I : Inv X pins σ H s) (hl : σ'.length = σ.length) (w : ∀ (i : Nat) v, σ'[i]? = some (some v) → σ[i]? = some (some v)) : Inv X pins σ' H s :=
  ⟨I.ok, I.os, I.bare, I.base, let ⟨m, hn, hl'⟩ := I.loc; ⟨m, hn, fun i x v e1 e2 e3 => hl' i x v e1 (w i v e2) e3⟩, I.cell, I.free, I.freeC, I.pin, I.hok, hl.trans I.len⟩
theorem Inv.pins_of {pins' : List (Addr × Obj)} (I : Inv X pins σ H s) (h : ∀ p ∈ pins', s.heap.get? p.1 = some p.2 ∧ H p.1 = none ∧ p.1 ≠ X.env.locals ∧ p.1 ∉ X.fs ∧ ∀ v, p.2.data ≠ .cell v) : Inv X pins' σ H s :=
  ⟨I.ok, I.os, I.bare, I.base, I.loc, I.cell, I.free, I.freeC, fun p hp => (List.mem_append.mp hp).elim (fun z => I.pin p (List.mem_append_left _ z)) (h p), I.hok, I.len⟩
theorem nodup_ix {N : List Str} (hN : N.Nodup) {i j : Nat} {x : Str} (a : N[i]? = some x) (b : N[j]? = some x) : i = j := by
  obtain ⟨h1, e1⟩ := List.getElem?_eq_some_iff.mp a
  obtain ⟨h2, e2⟩ := List.getElem?_eq_some_iff.mp b
  exact (List.getElem_inj hN).mp (e1.trans e2.symm)
theorem store_ok2 {M : Model} {A : Around} {E : Value → Shared → Prop} {i : Nat} {x : Str} {v : V} {u : Value} {Q : Unit → Shared → Prop} (I : Inv X pins σ H s) (hN : X.N.Nodup) (hi : X.N[i]? = some x) (hx : Loc X.env.scope x) (r : RelV v u)
    (h : ∀ s', Inv X pins (σ.set i (some v)) H s' → (∃ a, Heap.SameBut a s.heap s'.heap ∧ (a = X.env.locals ∨ X.env.cells.lookup x = some a)) → Q () s') (hf : X.fn x = true ∨ X.env.scope.names.lookup x = some .local := by first | exact .inl rfl | exact .inr rfl | assumption) : wpAny M A (storeName X.env x u) Q E s := by
  obtain ⟨m, hn, hl⟩ := id I.loc
  have hcls : (X.env.scope.kind == .class || (X.env.scope.kind == .module && X.env.locals != X.env.globals)) = false := by rw [I.ok.kind]; rfl
  have hiσ : i < σ.length := by rw [I.len]; exact (List.getElem?_eq_some_iff.mp hi).1
  have cne := I.cne
  have tracked : ∀ {a : Addr} {h' : Heap}, (∃ o, s.heap.get? a = some o ∧ H a = none) → Heap.SameBut a s.heap h' → HOk X.prog X.w H h' := fun {a h'} ha hs b ob e => by
    obtain ⟨_, _, hfree⟩ := ha
    refine (I.hok b ob e).stay (fun c w' hc q => (hs.2 c ?_).trans q) (fun _ q => q) fun _ _ q => q
    rintro rfl
    rcases hc with rfl | hc
    · rw [hfree] at e; cases e
    · rw [hfree] at hc; cases hc
  rcases hx with hk | hk
  · refine wpAny_storeName_local hk hn (fun h' hn' hs => ?_) hcls
    obtain ⟨oL, _, _, hoL, _⟩ := id hn
    refine h _ ⟨I.ok, I.os, I.bare, ⟨fun b o e n hb hx => ?_, fun b o e n hb hx => ?_, I.base.free, fun b o e hx => ?_, I.base.tups, I.base.frzs, I.base.tbls⟩, ⟨_, hn', fun j y v' e1 e2 e3 => ?_⟩, fun y c e => ?_, I.free, I.freeC, fun p hp => ?_, tracked ⟨oL, hoL, I.free⟩ hs, by simpa using I.len⟩ ⟨_, hs, .inl rfl⟩
    · exact (hs.2 b (Nat.ne_of_lt (Nat.lt_of_lt_of_le (Heap.lt_size e) I.ok.above))).trans (I.base.keep b o e n hb hx)
    · obtain ⟨sl, e1⟩ := I.base.slot b o e n hb hx
      exact ⟨sl, (hs.2 b (Nat.ne_of_lt (Nat.lt_of_lt_of_le (Heap.lt_size e) I.ok.above))).trans e1⟩
    · obtain ⟨o', e1⟩ := I.base.there b o e hx
      exact ⟨o', (hs.2 b (Nat.ne_of_lt (Nat.lt_of_lt_of_le (Heap.lt_size e) I.ok.above))).trans e1⟩
    · by_cases hj : j = i
      · subst hj
        rw [hi] at e1; cases e1
        rw [List.getElem?_set_self hiσ] at e2
        cases e2
        exact ⟨u, r, .inl ⟨hk, by simp⟩⟩
      · rw [List.getElem?_set_ne (Ne.symm hj)] at e2
        obtain ⟨u', r', q⟩ := hl j y v' e1 e2 e3
        refine ⟨u', r', ?_⟩
        rcases q with ⟨k, e⟩ | ⟨k, c, e, z⟩
        · refine .inl ⟨k, ?_⟩
          have : y ≠ x := fun e => hj (nodup_ix hN e1 (e ▸ hi))
          simp [this, e]
        · exact .inr ⟨k, c, e, z.sameBut hs (cne y c e)⟩
    · obtain ⟨w', z⟩ := I.cell y c e
      exact ⟨w', z.sameBut hs (cne y c e)⟩
    · obtain ⟨e, n, ne, nf, d⟩ := I.pin p hp
      exact ⟨(hs.2 p.1 ne).trans e, n, ne, nf, d⟩
  · have hfn : X.fn x = true := by
      rcases hf with z | z
      · exact z
      · rw [z] at hk; cases hk
    obtain ⟨c, hc⟩ := I.ok.has x (.inl hk)
    obtain ⟨w', z⟩ := I.cell x c hc
    refine wpAny_storeName_cell I.ok.kind hk hc z (fun h' hc' hs => ?_)
    obtain ⟨oc, hoc, hocd⟩ := id z
    refine h { s with heap := h' } ⟨I.ok, I.os, I.bare, ⟨fun b o e n hb hx => ?_, fun b o e n hb hx => ?_, I.base.free, fun b o e hx => ?_, I.base.tups, I.base.frzs, I.base.tbls⟩, ⟨m, hn.sameBut hs (Ne.symm (cne x c hc)), fun j y v' e1 e2 e3 => ?_⟩, fun y c' e => ?_, I.free, I.freeC, fun p hp => ?_, tracked ⟨oc, hoc, I.freeC x c hc⟩ hs, by simpa using I.len⟩ ⟨c, hs, .inr hc⟩
    · exact (hs.2 b (Nat.ne_of_lt (Nat.lt_of_lt_of_le (Heap.lt_size e) (I.ok.cab x c hfn hc)))).trans (I.base.keep b o e n hb hx)
    · obtain ⟨sl, e1⟩ := I.base.slot b o e n hb hx
      exact ⟨sl, (hs.2 b (Nat.ne_of_lt (Nat.lt_of_lt_of_le (Heap.lt_size e) (I.ok.cab x c hfn hc)))).trans e1⟩
    · obtain ⟨o', e1⟩ := I.base.there b o e hx
      exact ⟨o', (hs.2 b (Nat.ne_of_lt (Nat.lt_of_lt_of_le (Heap.lt_size e) (I.ok.cab x c hfn hc)))).trans e1⟩
    · by_cases hj : j = i
      · subst hj
        rw [hi] at e1; cases e1
        rw [List.getElem?_set_self hiσ] at e2
        cases e2
        exact ⟨u, r, .inr ⟨.inl hk, c, hc, hc'⟩⟩
      · rw [List.getElem?_set_ne (Ne.symm hj)] at e2
        obtain ⟨u', r', q⟩ := hl j y v' e1 e2 e3
        refine ⟨u', r', ?_⟩
        rcases q with q | ⟨k, c', e, z'⟩
        · exact .inl q
        · refine .inr ⟨k, c', e, z'.sameBut hs ?_⟩
          rintro rfl
          exact hj (nodup_ix hN e1 (I.ok.inj _ _ _ e hc ▸ hi))
    · by_cases hcc : c' = c
      · subst hcc; exact ⟨_, hc'⟩
      · obtain ⟨w2, z2⟩ := I.cell y c' e
        exact ⟨w2, z2.sameBut hs hcc⟩
    · obtain ⟨e, n, ne, nf, d⟩ := I.pin p hp
      refine ⟨(hs.2 p.1 ?_).trans e, n, ne, nf, d⟩
      intro q
      rw [q, hoc] at e
      have q' : oc = p.2 := Option.some.inj e
      exact d w' (by rw [← q']; exact hocd)
theorem store_ok {M : Model} {A : Around} {E : Value → Shared → Prop} {i : Nat} {x : Str} {v : V} {u : Value} {Q : Unit → Shared → Prop} (I : Inv X pins σ H s) (hN : X.N.Nodup) (hi : X.N[i]? = some x) (hx : Loc X.env.scope x) (r : RelV v u)
    (h : ∀ s', Inv X pins (σ.set i (some v)) H s' → Q () s') (hf : X.fn x = true ∨ X.env.scope.names.lookup x = some .local := by first | exact .inl rfl | exact .inr rfl | assumption) : wpAny M A (storeName X.env x u) Q E s :=
  store_ok2 I hN hi hx r (fun s' I' _ => h s' I') hf
theorem Inv.call' {s' : Shared} {ch : List Addr} (I : Inv X pins σ H s) (ho : s'.os = s.os) (u : Un (frs X.stack) ch H H' s.heap s'.heap) (hok : HOk X.prog X.w H' s'.heap) (hg : AllBare s'.gens)
    (hch : ∀ b ∈ ch, (b ∈ X.ex ∨ X.s₀.heap.objs.size ≤ b) ∧ b ≠ X.env.locals ∧ (∀ x c, X.env.cells.lookup x = some c → c ≠ b) ∧ ∀ p ∈ X.pn ++ pins, p.1 ≠ b) : Inv X pins σ H' s' := by
  obtain ⟨h', g', d', t', o'⟩ := s'
  have e : o' = s.os := ho
  subst e
  exact I.call (g' := g') (t' := t') (d' := d') u hok hg hch
end
abbrev XK := Value → Option Addr → Hp → Prop
abbrev St := List (Option V)
abbrev VK := V → Hp → Prop
abbrev TE := St → Hp → VK → Prop
abbrev TT := St → Hp → (Bool → Hp → Prop) → Prop
abbrev TA := St → Hp → (List V → Hp → Prop) → Prop
structure Ends where
  nx : St → Hp → Prop
  rt : VK
  bk : St → Hp → Prop := fun _ _ => False
  ct : St → Hp → Prop := fun _ _ => False
abbrev TS := Ends → St → Hp → Prop
def EP (X : Cx) (pins : List (Addr × Obj)) (σ : St) (Q : VK) (u : Value) (s' : Shared) : Prop := ∃ v H', Inv X pins σ H' s' ∧ RelV v u ∧ Q v H'
def TP (X : Cx) (pins : List (Addr × Obj)) (σ : St) (Q : Bool → Hp → Prop) (b : Bool) (s' : Shared) : Prop := ∃ H', Inv X pins σ H' s' ∧ Q b H'
def AP (X : Cx) (pins : List (Addr × Obj)) (σ : St) (Q : List V → Hp → Prop) (us : List Value) (s' : Shared) : Prop := ∃ vs H', Inv X pins σ H' s' ∧ Vals vs us ∧ Q vs H'
def SP (X : Cx) (pins : List (Addr × Obj)) (D : Ends) (f : Flow) (s' : Shared) : Prop :=
  match f with
  | .next => ∃ σ' H', Inv X pins σ' H' s' ∧ D.nx σ' H'
  | .brk => ∃ σ' H', Inv X pins σ' H' s' ∧ D.bk σ' H'
  | .cont => ∃ σ' H', Inv X pins σ' H' s' ∧ D.ct σ' H'
  | .ret u => ∃ v σ' H', Inv X pins σ' H' s' ∧ RelV v u ∧ D.rt v H'
def PE (X : Cx) (e : Expr) (t : TE) : Prop :=
  ∀ (pins : List (Addr × Obj)) (s : Shared) (σ : St) (H : Hp) (Q : VK), Inv X pins σ H s → t σ H Q → wpAny (model X.prog X.w) X.A (eval e X.env) (EP X pins σ Q) X.xe s
def PT (X : Cx) (e : Expr) (t : TT) : Prop :=
  ∀ (pins : List (Addr × Obj)) (s : Shared) (σ : St) (H : Hp) (Q : Bool → Hp → Prop), Inv X pins σ H s → t σ H Q → wpAny (model X.prog X.w) X.A (isTrue e X.env (eval e X.env)) (TP X pins σ Q) X.xe s
def PW (X : Cx) (e : Expr) (t : TT) : Prop :=
  ∀ (whole : Sem Value) (pins : List (Addr × Obj)) (s : Shared) (σ : St) (H : Hp) (Q : Bool → Hp → Prop), Inv X pins σ H s → t σ H Q → wpAny (model X.prog X.w) X.A (isTrue e X.env whole) (TP X pins σ Q) X.xe s
theorem PW.pt {X : Cx} {e : Expr} {t : TT} (h : PW X e t) : PT X e t := h _
def PA (X : Cx) (es : List Expr) (t : TA) : Prop :=
  ∀ (pos : Pos) (pins : List (Addr × Obj)) (s : Shared) (σ : St) (H : Hp) (Q : List V → Hp → Prop), Inv X pins σ H s → t σ H Q → wpAny (model X.prog X.w) X.A (spliced (backTo pos (starEach es X.env))) (AP X pins σ Q) X.xe s
def PS (X : Cx) (st : Stmt) (t : TS) : Prop :=
  ∀ (pins : List (Addr × Obj)) (s : Shared) (σ : St) (H : Hp) (D : Ends), Inv X pins σ H s → t D σ H → wpAny (model X.prog X.w) X.A (exec st X.env) (SP X pins D) X.xe s
def PSs (X : Cx) (st : List Stmt) (t : TS) : Prop :=
  ∀ (pins : List (Addr × Obj)) (s : Shared) (σ : St) (H : Hp) (D : Ends), Inv X pins σ H s → t D σ H → wpAny (model X.prog X.w) X.A (execs st X.env) (SP X pins D) X.xe s
theorem thn {α : Type} {t : Sem α} {Q Q' : α → Shared → Prop} {M : Model} {A : Around} {E : Value → Shared → Prop} {s : Shared} (h : wpAny M A t Q E s) (hQ : ∀ a s, Q a s → Q' a s) : wpAny M A t Q' E s := wpAny_mono h hQ fun _ _ x => x
end L2
namespace L2
open PySem PySem.Spec PyProof.Rows
section
variable {X : Cx}
def tVar (i : Nat) : TE := fun σ H Q => ∃ v, σ[i]? = some (some v) ∧ Q v H
def tC (v : V) : TE := fun _ H Q => Q v H
theorem pe_var {i : Nat} {x : Str} {pos : Pos} (hN : X.N[i]? = some x) (hv : Vis X.env.scope x) (hd : (x == ("__debug__" : Str)) = false := by decide) (hcd : (x == ("__classdict__" : Str)) = false := by decide) : PE X (.Name x pos) (tVar i) := by
  intro pins s σ H Q I h
  obtain ⟨v, e, h⟩ := h
  obtain ⟨m, hn, hl⟩ := I.loc
  obtain ⟨u, r, l⟩ := hl i x v hN e hv
  have fin : EP X pins σ Q u s := ⟨v, H, I, r, h⟩
  rcases l with ⟨hk, hm⟩ | ⟨hk, c, hc, hcell⟩
  · exact wpAny_Name (wpAny_loadName_local I.ok.kind hk hn hm fin) hd
  · rcases hk with hk | hk
    · exact wpAny_Name (wpAny_loadName_cell I.ok.kind hk hc hcell fin) hd
    · exact wpAny_Name (wpAny_loadName_free I.ok.kind hk hc hcell fin hcd) hd
theorem pe_int {i j pos} : PE X (.Constant (.int i) j pos) (tC (.int i)) := fun _ _ _ H _ I h => wpAny_Constant_int ⟨.int i, H, I.tok _, ⟨_, rfl⟩, h⟩
theorem pe_bl {b j pos} : PE X (.Constant (.bool b) j pos) (tC (.bl b)) := fun _ _ _ H _ I h => Constant_bool ⟨.bl b, H, I, rfl, h⟩
theorem pe_non {j pos} : PE X (.Constant .none j pos) (tC .non) := fun _ _ _ H _ I h => Constant_none ⟨.non, H, I, rfl, h⟩
theorem pe_str {x j pos} : PE X (.Constant (.str x) j pos) (tC (.str x)) := fun _ _ _ H _ I h => Calls.Constant_str ⟨.str x, H, I.tok _, ⟨_, rfl⟩, h⟩
def Gl (X : Cx) (x : Str) : Prop := X.env.kindOf x = some .globalImplicit
theorem ld_glob {E : Value → Shared → Prop} {pins : List (Addr × Obj)} {s : Shared} {σ : St} {H : Hp} {x : Str} {u : Value} {pos : Pos} {Q : Value → Shared → Prop} (I : Inv X pins σ H s) (hg : Gl X x) (hm : X.mg x = some u) (h : Q u s)
    (hd : (x == ("__debug__" : Str)) = false := by decide) : wpAny (model X.prog X.w) X.A (eval (.Name x pos) X.env) Q E s :=
  Calls.Name_function_global I.ok.kind hg (Calls.loadGlobal_global (by rw [I.ok.glob]; exact I.mod.glob.keeps I.bk) hm h) hd
theorem ld_blt {E : Value → Shared → Prop} {pins : List (Addr × Obj)} {s : Shared} {σ : St} {H : Hp} {x : Str} {u : Value} {pos : Pos} {Q : Value → Shared → Prop} (I : Inv X pins σ H s) (hg : Gl X x) (hm : X.mg x = none) (hv : bootBuiltins x = some u) (h : Q u s)
    (hn : x ≠ "__name__" := by decide) (hd : (x == ("__debug__" : Str)) = false := by decide) : wpAny (model X.prog X.w) X.A (eval (.Name x pos) X.env) Q E s := by
  obtain ⟨mb, h1, h2⟩ := I.mod.blt
  exact Calls.Name_function_global I.ok.kind hg (Calls.loadGlobal_builtin (by rw [I.ok.glob]; exact I.mod.glob.keeps I.bk) hm (by rw [I.ok.blt]; exact h1.keeps I.bk) ((h2 x hn).trans hv) h) hd
theorem pe_glob {x : Str} {v : V} {u : Value} {pos : Pos} (hg : Gl X x) (hm : X.mg x = some u) (r : RelV v u) (hd : (x == ("__debug__" : Str)) = false := by decide) : PE X (.Name x pos) (tC v) :=
  fun _ _ _ H _ I h => ld_glob I hg hm ⟨v, H, I, r, h⟩ hd
theorem pe_bltn {x : Str} {v : V} {u : Value} {pos : Pos} (hg : Gl X x) (hm : X.mg x = none) (hv : bootBuiltins x = some u) (r : RelV v u) (hn : x ≠ "__name__" := by decide) (hd : (x == ("__debug__" : Str)) = false := by decide) : PE X (.Name x pos) (tC v) :=
  fun _ _ _ H _ I h => ld_blt I hg hm hv ⟨v, H, I, r, h⟩ hn hd
variable {a b : Expr} {ta tb : TE} {pos : Pos}
def tB (t : TE) : TT := fun σ H Q => t σ H fun x H1 => ∃ c, x = .bl c ∧ Q c H1
theorem pt_val {e : Expr} {t : TE} (h : PE X e t) (he : ∀ whole, isTrue e X.env whole = (do let v ← whole; standAt e.pos; holding [v] (truthy v)) := by intro _; rfl) : PT X e (tB t) := by
  intro pins s σ H Q I hw
  refine isTrue_plain (thn (h pins s σ H _ I hw) fun v s1 ⟨x, H1, I1, r1, q1⟩ => ?_) (he _)
  obtain ⟨d, rfl, q⟩ := q1
  cases r1
  exact wpAny_truthy_bool ⟨H1, I1, q⟩
variable {tA tB' : TT} {rest : List Expr}
def tAnd (t u : TT) : TT := fun σ H Q => t σ H fun c H1 => if c = true then u σ H1 Q else Q false H1
def tOr (t u : TT) : TT := fun σ H Q => t σ H fun c H1 => if c = true then Q true H1 else u σ H1 Q
def tNot (t : TT) : TT := fun σ H Q => t σ H fun c H1 => Q (!c) H1
theorem pw_and1 (ha : PT X a tA) : PW X (.BoolOp .And [a] pos) tA := by
  intro wh pins s σ H Q I h
  refine isTrue_and (thn (ha pins s σ H Q I h) fun c s1 e => ?_)
  cases c with
  | true => exact isTrue_and_nil e
  | false => exact e
theorem pw_or1 (ha : PT X a tA) : PW X (.BoolOp .Or [a] pos) tA := by
  intro wh pins s σ H Q I h
  refine isTrue_or (thn (ha pins s σ H Q I h) fun c s1 e => ?_)
  cases c with
  | false => exact isTrue_or_nil e
  | true => exact e
theorem pw_and (ha : PT X a tA) (hb : PW X (.BoolOp .And (b :: rest) pos) tB') : PW X (.BoolOp .And (a :: b :: rest) pos) (tAnd tA tB') := by
  intro wh pins s σ H Q I h
  refine isTrue_and (thn (ha pins s σ H _ I h) fun c s1 ⟨H1, I1, q1⟩ => ?_)
  cases c with
  | true => exact hb wh pins s1 σ H1 Q I1 q1
  | false => exact ⟨H1, I1, q1⟩
theorem pw_or (ha : PT X a tA) (hb : PW X (.BoolOp .Or (b :: rest) pos) tB') : PW X (.BoolOp .Or (a :: b :: rest) pos) (tOr tA tB') := by
  intro wh pins s σ H Q I h
  refine isTrue_or (thn (ha pins s σ H _ I h) fun c s1 ⟨H1, I1, q1⟩ => ?_)
  cases c with
  | true => exact ⟨H1, I1, q1⟩
  | false => exact hb wh pins s1 σ H1 Q I1 q1
theorem pt_not (ha : PT X a tA) : PT X (.UnaryOp .Not a pos) (tNot tA) := by
  intro pins s σ H Q I h
  exact isTrue_not (ha pins s σ H (fun c H1 => Q (!c) H1) I h)
def tAndV (ta tb : TE) : TE := fun σ H Q => ta σ H fun x H1 => ∃ c, x = .bl c ∧ if c = true then tb σ H1 Q else Q (.bl false) H1
def tNotV (ta : TE) : TE := fun σ H Q => ta σ H fun x H1 => ∃ c, x = .bl c ∧ Q (.bl (!c)) H1
theorem pe_one {op} {t : TE} (h : PE X a t) : PE X (.BoolOp op [a] pos) t := fun pins s σ H Q I hw => BoolOp_one (h pins s σ H Q I hw)
theorem pe_and (ha : PE X a ta) (hb : PE X (.BoolOp .And (b :: rest) pos) tb) : PE X (.BoolOp .And (a :: b :: rest) pos) (tAndV ta tb) := by
  intro pins s σ H Q I h
  refine BoolOp_and (thn (ha pins s σ H _ I h) fun v s1 ⟨x, H1, I1, r1, q1⟩ => ?_)
  obtain ⟨c, rfl, q1⟩ := q1
  cases r1
  refine wpAny_truthy_bool ?_
  cases c with
  | true => exact hb pins s1 σ H1 Q I1 q1
  | false => exact ⟨.bl false, H1, I1, rfl, q1⟩
theorem pe_not (ha : PE X a ta) : PE X (.UnaryOp .Not a pos) (tNotV ta) := by
  intro pins s σ H Q I h
  refine UnaryOp_ (thn (ha pins s σ H _ I h) fun v s1 ⟨x, H1, I1, r1, q1⟩ => ?_)
  obtain ⟨c, rfl, q1⟩ := q1
  cases r1
  exact not_of (wpAny_truthy_bool ⟨.bl (!c), H1, I1, rfl, q1⟩)
def tIf (t : TT) (ta tb : TE) : TE := fun σ H Q => t σ H fun c H1 => if c = true then ta σ H1 Q else tb σ H1 Q
theorem pe_ifExp {c : Expr} (hc : PT X c tA) (ha : PE X a ta) (hb : PE X b tb) : PE X (.IfExp c a b pos) (tIf tA ta tb) := by
  intro pins s σ H Q I h
  refine wpAny_IfExp (thn (hc pins s σ H _ I h) fun d s1 ⟨H1, I1, q1⟩ => ?_)
  cases d with
  | true => exact ha pins s1 σ H1 Q I1 q1
  | false => exact hb pins s1 σ H1 Q I1 q1
end
end L2
namespace L2
open PySem PySem.Spec PyProof.Rows
def SqL (K : PySem.W.Frag) (H : Hp) (a : Addr) (xs : List V) : Prop :=
  Rd H a (.lst xs) ∨
    ∃ (o : Obj) (its : Array Value) (n : Nat), K.lookup a = some o ∧ o.cls = .type "list" ∧ o.dict = none ∧ o.data = .seq its n ∧ its.size ≤ sizeLine ∧ Vals xs its.toList
def SqT (K : PySem.W.Frag) (H : Hp) (a : Addr) (xs : List V) : Prop :=
  Rd H a (.tup xs) ∨
    ∃ (o : Obj) (its : Array Value) (n : Nat), K.lookup a = some o ∧ o.cls = .type "tuple" ∧ o.data = .seq its n ∧ its.size ≤ sizeLine ∧ Vals xs its.toList
def absV : Value → Option V
  | .none => some .non
  | .bool b => some (.bl b)
  | .int i _ => some (.int i)
  | .str x _ => some (.str x)
  | .bytes b _ => some (.byt b)
  | .float b _ => some (.flt b)
  | .ref a => some (.ref a)
  | .type n => some (.ty n)
  | _ => none
theorem RelV.abs {x : V} {u : Value} (r : RelV x u) : absV u = some x := by
  cases x with
  | non => cases r; rfl
  | bl _ => cases r; rfl
  | int _ => obtain ⟨t, rfl⟩ := r; rfl
  | str _ => obtain ⟨t, rfl⟩ := r; rfl
  | byt _ => obtain ⟨t, rfl⟩ := r; rfl
  | flt _ => obtain ⟨t, rfl⟩ := r; rfl
  | ref _ => cases r; rfl
  | ty _ => cases r; rfl
theorem RelV.inj {x y : V} {u : Value} (r : RelV x u) (q : RelV y u) : x = y := Option.some.inj (r.abs.symm.trans q.abs)
theorem Vals.inj : ∀ {xs ys : List V} {us : List Value}, Vals xs us → Vals ys us → xs = ys
  | _, _, _, .nil, .nil => rfl
  | _, _, _, .cons r t, .cons r' t' => by rw [r.inj r', Vals.inj t t']
section
variable {X : Cx} {pins : List (Addr × Obj)} {σ : St} {H : Hp} {s : Shared} {a : Addr} {xs ys : List V}
theorem SqL.of {K : PySem.W.Frag} (h : H a = some (.lst xs)) : SqL K H a xs := .inl (.inl h)
theorem SqT.of {K : PySem.W.Frag} (h : H a = some (.tup xs)) : SqT K H a xs := .inl (.inl h)
theorem Inv.list (I : Inv X pins σ H s) (h : SqL X.K H a xs) : ∃ its : List Value, Vals xs its ∧ PlainL s.heap a its.toArray ∧ xs.length ≤ sizeLine := by
  rcases h with h | ⟨o, its, n, hk, hc, hd, hs, hz, r⟩
  · obtain ⟨z, its, n, r, e⟩ := h.ok I.hok
    exact ⟨its, r, ⟨_, n, e, rfl, rfl, rfl⟩, z⟩
  · refine ⟨its.toList, r, ⟨o, n, I.kIn a o hk, hc, hd, by simpa using hs⟩, ?_⟩
    have e := r.length
    simp only [Array.length_toList] at e
    omega
theorem Inv.tuple (I : Inv X pins σ H s) (h : SqT X.K H a xs) : ∃ its : List Value, Vals xs its ∧ IsTup s.heap a its.toArray ∧ xs.length ≤ sizeLine := by
  rcases h with h | ⟨o, its, n, hk, hc, hs, hz, r⟩
  · obtain ⟨z, its, r, p⟩ := h.ok I.hok
    exact ⟨its, r, p, z⟩
  · refine ⟨its.toList, r, ⟨o, I.kIn a o hk, hc, n, by simpa using hs⟩, ?_⟩
    have e := r.length
    simp only [Array.length_toList] at e
    omega
theorem Inv.list_inj (I : Inv X pins σ H s) (h : SqL X.K H a xs) (h' : SqL X.K H a ys) : xs = ys := by
  obtain ⟨its, r, ⟨o, n, e, _, _, d⟩, _⟩ := I.list h
  obtain ⟨its', r', ⟨o', n', e', _, _, d'⟩, _⟩ := I.list h'
  rw [e] at e'; cases e'
  rw [d] at d'
  injection d' with d1 _
  have : its = its' := by simpa using congrArg Array.toList d1
  subst this
  exact r.inj r'
theorem Inv.tuple_inj (I : Inv X pins σ H s) (h : SqT X.K H a xs) (h' : SqT X.K H a ys) : xs = ys := by
  obtain ⟨its, r, ⟨o, e, _, n, d⟩, _⟩ := I.tuple h
  obtain ⟨its', r', ⟨o', e', _, n', d'⟩, _⟩ := I.tuple h'
  rw [e] at e'; cases e'
  rw [d] at d'
  injection d' with d1 _
  have : its = its' := by simpa using congrArg Array.toList d1
  subst this
  exact r.inj r'
end
abbrev Cx.wish (X : Cx) (E : Value → Shared → Prop) : Cx := { X with xe := E }
abbrev Cx.nox (X : Cx) : Cx := X.wish fun _ _ => False
theorem Cx.Ok.wish {X : Cx} (ok : X.Ok) (E : Value → Shared → Prop) : (X.wish E).Ok :=
  ⟨ok.mod, ok.kind, ok.glob, ok.blt, ok.above, ok.inj, ok.has, ok.cab, ok.hd, ok.frames, ok.stk, ok.exf, ok.bs, ok.bsz, ok.noex, ok.exfs, ok.funs, ok.frf⟩
theorem Cx.Ok.unwish {X : Cx} {E : Value → Shared → Prop} (ok : (X.wish E).Ok) : X.Ok :=
  ⟨ok.mod, ok.kind, ok.glob, ok.blt, ok.above, ok.inj, ok.has, ok.cab, ok.hd, ok.frames, ok.stk, ok.exf, ok.bs, ok.bsz, ok.noex, ok.exfs, ok.funs, ok.frf⟩
section
variable {X : Cx} {pins : List (Addr × Obj)} {σ : St} {H : Hp} {s : Shared} {E : Value → Shared → Prop}
theorem Inv.wish (I : Inv X pins σ H s) (E : Value → Shared → Prop) : Inv (X.wish E) pins σ H s := ⟨I.ok.wish E, I.os, I.bare, I.base, I.loc, I.cell, I.free, I.freeC, I.pin, I.hok, I.len⟩
theorem Inv.unwish (I : Inv (X.wish E) pins σ H s) : Inv X pins σ H s := ⟨I.ok.unwish, I.os, I.bare, I.base, I.loc, I.cell, I.free, I.freeC, I.pin, I.hok, I.len⟩
theorem SP.unwish {D : Ends} {f : Flow} {s' : Shared} (h : SP (X.wish E) pins D f s') : SP X pins D f s' := by
  cases f with
  | next => obtain ⟨σ', H', I, q⟩ := h; exact ⟨σ', H', I.unwish, q⟩
  | brk => obtain ⟨σ', H', I, q⟩ := h; exact ⟨σ', H', I.unwish, q⟩
  | cont => obtain ⟨σ', H', I, q⟩ := h; exact ⟨σ', H', I.unwish, q⟩
  | ret u => obtain ⟨v, σ', H', I, r, q⟩ := h; exact ⟨v, σ', H', I.unwish, r, q⟩
theorem PE.nox {e : Expr} {t : TE} (h : PE X.nox e t) : PE X e t := fun pins s σ H Q I hw =>
  wpAny_mono (h pins s σ H Q (I.wish _) hw) (fun _ _ ⟨v, H', I', r, q⟩ => ⟨v, H', I'.unwish, r, q⟩) fun _ _ z => False.elim z
theorem PT.nox {e : Expr} {t : TT} (h : PT X.nox e t) : PT X e t := fun pins s σ H Q I hw =>
  wpAny_mono (h pins s σ H Q (I.wish _) hw) (fun _ _ ⟨H', I', q⟩ => ⟨H', I'.unwish, q⟩) fun _ _ z => False.elim z
theorem PSs.nox {st : List Stmt} {t : TS} (h : PSs X.nox st t) : PSs X st t := fun pins s σ H D I hw =>
  wpAny_mono (h pins s σ H D (I.wish _) hw) (fun _ _ q => q.unwish) fun _ _ z => False.elim z
end
section
variable {X : Cx} {st : Stmt} {rest : List Stmt} {t u : TS} {e : Expr} {te : TE} {pos : Pos}
def tNext : TS := fun D σ H => D.nx σ H
def tSeq (t u : TS) : TS := fun D σ H => t { D with nx := u D } σ H
theorem pss_nil : PSs X [] tNext := fun _ _ σ H _ I h => wpAny_execs_nil ⟨σ, H, I, h⟩
theorem pss_cons (h1 : PS X st t) (h2 : PSs X rest u) : PSs X (st :: rest) (tSeq t u) := by
  intro pins s σ H D I h
  refine wpAny_execs_cons (thn (h1 pins s σ H { D with nx := u D } I h) fun f s1 q => ?_)
  cases f with
  | next =>
    obtain ⟨σ', H', I', q⟩ := q
    exact h2 pins s1 σ' H' D I' q
  | ret v => exact q
  | brk => exact q
  | cont => exact q
theorem pss_one (h1 : PS X st t) : PSs X [st] t := by
  intro pins s σ H D I h
  refine wpAny_execs_cons (thn (h1 pins s σ H D I h) fun f s1 q => ?_)
  cases f with
  | next => exact wpAny_execs_nil q
  | ret v => exact q
  | brk => exact q
  | cont => exact q
theorem Inv.quiet {pins : List (Addr × Obj)} {σ : St} {H : Hp} {s : Shared} (I : Inv X pins σ H s) : interactive X.env = false := by simp [interactive, I.ok.kind]
def tDrop (te : TE) : TS := fun D σ H => te σ H fun _ H1 => D.nx σ H1
theorem ps_expr (he : PE X e te) (hs : swapsWith e none pos.line X.env = pure false := by rfl) : PS X (.Expr e pos) (tDrop te) := by
  intro pins s σ H D I h
  exact wpAny_Expr_any (thn (he pins s σ H _ I h) fun v s1 ⟨x, H1, I1, r1, q1⟩ => ⟨σ, H1, I1, q1⟩) I.quiet hs
def tRet (te : TE) : TS := fun D σ H => te σ H D.rt
theorem ps_ret (he : PE X e te) : PS X (.Return (some e) pos) (tRet te) := by
  intro pins s σ H D I h
  exact wpAny_Return_some (thn (he pins s σ H _ I h) fun v s1 ⟨x, H1, I1, r1, q1⟩ => ⟨x, σ, H1, I1, r1, q1⟩)
def tIfS (c : TT) (t u : TS) : TS := fun D σ H => c σ H fun b H1 => if b = true then t D σ H1 else u D σ H1
theorem ps_if {c : Expr} {a b : List Stmt} {tc : TT} (hc : PT X c tc) (ha : PSs X a t) (hb : PSs X b u) : PS X (.If c a b pos) (tIfS tc t u) := by
  intro pins s σ H D I h
  refine wpAny_If (thn (hc pins s σ H _ I h) fun d s1 ⟨H1, I1, q1⟩ => ?_)
  cases d with
  | true => exact ha pins s1 σ H1 D I1 q1
  | false => exact hb pins s1 σ H1 D I1 q1
end
abbrev TG := V → St → Hp → (St → Hp → Prop) → Prop
abbrev TGs := List V → St → Hp → (St → Hp → Prop) → Prop
def PG (X : Cx) (target : Expr) (t : TG) : Prop :=
  ∀ (pins : List (Addr × Obj)) (s : Shared) (σ : St) (H : Hp) (v : V) (u : Value) (Q : St → Hp → Prop), Inv X pins σ H s → RelV v u → t v σ H Q →
    wpAny (model X.prog X.w) X.A (assign target X.env u) (fun _ s' => ∃ σ' H', Inv X pins σ' H' s' ∧ Q σ' H') X.xe s
def PGs (X : Cx) (ts : List Expr) (t : TGs) : Prop :=
  ∀ (pins : List (Addr × Obj)) (s : Shared) (σ : St) (H : Hp) (vs : List V) (us : List Value) (Q : St → Hp → Prop), Inv X pins σ H s → Vals vs us → t vs σ H Q →
    wpAny (model X.prog X.w) X.A (assignInOrder ((assignEach ts X.env).map (·.2)) us) (fun _ s' => ∃ σ' H', Inv X pins σ' H' s' ∧ Q σ' H') X.xe s
section
variable {X : Cx} {pos : Pos}
def gName (i : Nat) : TG := fun v σ H Q => Q (σ.set i (some v)) H
theorem pg_name {i : Nat} {x : Str} (hN : X.N.Nodup) (hi : X.N[i]? = some x) (hx : Loc X.env.scope x) (hf : X.fn x = true ∨ X.env.scope.names.lookup x = some .local := by first | exact .inl rfl | exact .inr rfl | assumption) : PG X (.Name x pos) (gName i) := by
  intro pins s σ H v u Q I r h
  exact wpAny_assign_Name (store_ok I hN hi hx r (fun s' I' => ⟨_, H, I', h⟩) hf)
def gNil : TGs := fun vs σ H Q => vs = [] ∧ Q σ H
def gCons (t : TG) (u : TGs) : TGs := fun vs σ H Q => ∃ v r, vs = v :: r ∧ t v σ H fun σ' H' => u r σ' H' Q
theorem pgs_nil : PGs X [] gNil := by
  intro pins s σ H vs us Q I r h
  obtain ⟨e, h⟩ := h
  subst e
  cases r
  exact assignInOrder_nil ⟨σ, H, I, h⟩
theorem pgs_cons {e : Expr} {es : List Expr} {t : TG} {u : TGs} (h1 : PG X e t) (h2 : PGs X es u)
    (hs : (assignEach (e :: es) X.env).map (·.2) = assign e X.env :: (assignEach es X.env).map (·.2) := by rfl) : PGs X (e :: es) (gCons t u) := by
  intro pins s σ H vs us Q I r h
  obtain ⟨v, vr, e1, h⟩ := h
  subst e1
  cases r with
  | cons r rr =>
    rw [hs]
    refine assignInOrder_cons (thn (h1 pins s σ H _ _ _ I r h) fun _ s1 ⟨σ1, H1, I1, q1⟩ => ?_)
    exact h2 pins s1 σ1 H1 _ _ Q I1 rr q1
def gTup (K : PySem.W.Frag) (n : Nat) (t : TGs) : TG := fun v σ H Q => ∃ a xs, v = .ref a ∧ SqT K H a xs ∧ xs.length = n ∧ t xs σ H Q
theorem pg_tup {es : List Expr} {k : Nat} {t : TGs} {n : Nat} (hc : X.calm = true) (h : PGs X es t)
    (hn : (assignEach es X.env).length = n := by rfl) (hst : (assignEach es X.env).findIdx? (·.1) = none := by rfl) : PG X (.Tuple es k pos) (gTup X.K n t) := by
  intro pins s σ H v u Q I r hw
  obtain ⟨a, xs, e1, hq, hl, hw⟩ := hw
  subst e1
  cases r
  obtain ⟨its, rv, ht, hz⟩ := I.tuple hq
  refine assign_Tuple_tuple (I.ok.hd hc) ht (by simp [hn, ← hl, rv.length]) hst fun h' hx => ?_
  have I1 : Inv X pins σ H { s with heap := h' } := I.kept (t' := s.toks) fun b o e => hx b o (Nat.ne_of_lt (Heap.lt_size e)) e
  exact h pins _ σ H xs _ Q I1 (by simpa using rv) hw
def tAsg (te : TE) (g : TG) : TS := fun D σ H => te σ H fun x H1 => g x σ H1 D.nx
theorem ps_asg {tg e : Expr} {te : TE} {g : TG} (he : PE X e te) (hg : PG X tg g) (hs : swapsWithSole [tg] e pos.line X.env = pure false := by rfl) (hw : swappedStores [tg] e X.env = pure none := by rfl)
    (h1 : (assignEach [tg] X.env).map (·.2) = [assign tg X.env] := by rfl) : PS X (.Assign [tg] e pos) (tAsg te g) := by
  intro pins s σ H D I h
  refine wpAny_Assign_stores (thn (he pins s σ H _ I h) fun v s1 ⟨x, H1, I1, r1, q1⟩ => ?_) hs hw
  rw [h1]
  exact thn (hg pins s1 σ H1 x v _ I1 r1 q1) fun _ s2 q => q
theorem ps_set {i : Nat} {x : Str} {e : Expr} {te : TE} {pos' : Pos} (hN : X.N.Nodup) (hi : X.N[i]? = some x) (hx : Loc X.env.scope x) (he : PE X e te) (hs : swapsWith e (some (.Name x pos')) pos.line X.env = pure false := by rfl) (hf : X.fn x = true ∨ X.env.scope.names.lookup x = some .local := by first | exact .inl rfl | exact .inr rfl | assumption) :
    PS X (.Assign [.Name x pos'] e pos) (tAsg te (gName i)) := by
  intro pins s σ H D I h
  refine wpAny_Assign_Name (thn (he pins s σ H _ I h) fun v s1 ⟨y, H1, I1, r1, q1⟩ => ?_) hs
  exact store_ok I1 hN hi hx r1 (fun s2 I2 => ⟨_, H1, I2, q1⟩) hf
end
section
variable {X : Cx} {pos : Pos}
end
structure It where
  go : Nat → Hp → Prop
  yld : Nat → Hp → V → Hp → Prop
  stop : Nat → Hp → Prop
def FpOk (X : Cx) (pins : List (Addr × Obj)) (H : Hp) (b : Addr) : Prop :=
  H b = none ∧ b ≠ X.env.locals ∧ b ∉ X.fs ∧ (b ∈ X.ex ∨ X.s₀.heap.objs.size ≤ b) ∧ (∀ x c, X.env.cells.lookup x = some c → c ≠ b) ∧ ∀ p ∈ X.pn ++ pins, p.1 ≠ b
theorem Inv.fpOk {X : Cx} {pins : List (Addr × Obj)} {σ : St} {H H' : Hp} {s : Shared} {b : Addr} (I : Inv X pins σ H s) (hb : s.heap.objs.size ≤ b) (hn : H' b = none) : FpOk X pins H' b := by
  refine ⟨hn, Nat.ne_of_gt (Nat.lt_of_lt_of_le I.lt hb), I.nofs hb, .inr (Nat.le_trans I.sz hb), fun x c e z => ?_, fun p hp z => ?_⟩
  · obtain ⟨v, q⟩ := I.cell x c e
    exact absurd (Nat.lt_of_lt_of_le q.lt (by rw [z]; exact hb)) (Nat.lt_irrefl _)
  · exact absurd (Nat.lt_of_lt_of_le (Heap.lt_size (I.pin p hp).1) (by rw [z]; exact hb)) (Nat.lt_irrefl _)
structure Turn (P : Program) (w : World) (K : PySem.W.Frag) (tg : Expr) (J : It) (fp : List Addr) (it : Addr) (tn : Nat → Heap → Prop) : Prop where
  mem : it ∈ fp
  obj : ∀ i h, tn i h → ∀ b ∈ fp, ∃ o, h.get? b = some o ∧ ∀ v, o.data ≠ .cell v
  keep : ∀ i h h', tn i h → (∀ b ∈ fp, ∀ o, h.get? b = some o → h'.get? b = some o) → tn i h'
  item : ∀ (X : Cx), X.prog = P → X.w = w → X.K = K → X.calm = true → ∀ (i : Nat) (pins : List (Addr × Obj)) (s : Shared) (σ : St) (H : Hp) (E : Value → Shared → Prop), Inv X pins σ H s → (∀ b ∈ fp, FpOk X pins H b) → tn i s.heap → J.go i H →
    wpAny (model P w) X.A (pyNext (.ref it)) (fun r s1 => ∃ u, r = some u ∧
      wpAny (model P w) X.A (letOwnedTupleGo tg (.ref it) u) (fun _ s2 => ∃ x H', Inv X pins σ H' s2 ∧ RelV x u ∧ J.yld i H x H' ∧ tn (i + 1) s2.heap ∧ ∀ b ∈ fp, H' b = none) E s1) E s
  done : ∀ (X : Cx), X.prog = P → X.w = w → X.K = K → X.calm = true → ∀ (i : Nat) (pins : List (Addr × Obj)) (s : Shared) (σ : St) (H : Hp) (E : Value → Shared → Prop), Inv X pins σ H s → (∀ b ∈ fp, FpOk X pins H b) → tn i s.heap → J.stop i H →
    wpAny (model P w) X.A (pyNext (.ref it)) (fun r s1 => r = none ∧ Inv X pins σ H s1) E s
  self : ∀ (A : Around) (i : Nat) (s : Shared) (Q : Value → Shared → Prop) (E : Value → Shared → Prop), tn i s.heap → Q (.ref it) s → wpAny (model P w) A (pyIter (.ref it)) Q E s
abbrev TI := St → Hp → (It → Hp → Prop) → Prop
def PIE (X : Cx) (pins : List (Addr × Obj)) (σ : St) (tg : Expr) (R : It → Hp → Prop) (itv : Value) (s2 : Shared) : Prop :=
  ∃ (it : Addr) (fp : List Addr) (tn : Nat → Heap → Prop) (J : It) (H' : Hp), itv = .ref it ∧ Inv X pins σ H' s2 ∧ Turn X.prog X.w X.K tg J fp it tn ∧ tn 0 s2.heap ∧ (∀ b ∈ fp, FpOk X pins H' b) ∧ R J H'
def PI (X : Cx) (tg iter : Expr) (wi : TI) : Prop :=
  ∀ (pins : List (Addr × Obj)) (s : Shared) (σ : St) (H : Hp) (R : It → Hp → Prop), Inv X pins σ H s → wi σ H R →
    wpAny (model X.prog X.w) X.A (eval iter X.env) (fun v s1 => wpAny (model X.prog X.w) X.A (pyIter v) (PIE X pins σ tg R) X.xe s1) X.xe s
theorem go_of {M : Model} {A : Around} {E : Value → Shared → Prop} {s : Shared} {tg : Expr} {it : Addr} {u : Value} {o : Obj} {n : String} {vs : Array Value} {Q : Unit → Shared → Prop} (ho : s.heap.get? it = some o) (hc : o.cls = .type n) (hd : o.data = .fields vs)
    (hn : ["enumerate", "zip", "dict_itemiterator", "dict_reverseitemiterator", "odict_iterator", "itertools.zip_longest", "itertools.pairwise"].contains n = false) (hQ : Q () s) : wpAny M A (letOwnedTupleGo tg (.ref it) u) Q E s := by
  unfold letOwnedTupleGo
  cases tg <;> first
    | exact wpAny_pure hQ
    | (cases u <;> first
        | exact wpAny_pure hQ
        | (refine wpAny_bind (wpAny_load ho ?_)
           rw [hc, hd]
           show wpAny M A (if (["enumerate", "zip", "dict_itemiterator", "dict_reverseitemiterator", "odict_iterator", "itertools.zip_longest", "itertools.pairwise"].contains n && vs[0]? == some (rawInt _)) = true then _ else _) Q E s
           rw [if_neg (by intro h; rw [hn, Bool.false_and] at h; cases h)]
           exact wpAny_pure hQ))
def Itl (K : PySem.W.Frag) (a : Addr) : It :=
  ⟨fun i H => ∃ xs x, SqL K H a xs ∧ xs[i]? = some x, fun i H x H' => H' = H ∧ ∀ xs, SqL K H a xs → xs[i]? = some x, fun i H => ∃ xs, SqL K H a xs ∧ xs.length ≤ i⟩
def Itr (lo : Int) (n : Nat) : It := ⟨fun i _ => i < n, fun i H x H' => H' = H ∧ x = .int (lo + i), fun i _ => n ≤ i⟩
theorem turn_list {P : Program} {w : World} {K : PySem.W.Frag} {tg : Expr} (a it : Addr) : Turn P w K tg (Itl K a) [it] it (fun i h => h.IsListIter it a i) where
  mem := by simp
  obj := fun i h st b hb => by
    have e : b = it := by simpa using hb
    subst e
    obtain ⟨o, e, c, d⟩ := st
    exact ⟨o, e, fun v z => by rw [d] at z; cases z⟩
  keep := fun i h h' st k => st.at fun o e => k it (by simp) o e
  item := by
    intro X hP hw hK hc i pins s σ H E I hf st hg
    subst hP hw hK
    obtain ⟨xs, x, hq, hx⟩ := hg
    obtain ⟨its, rv, p, hz⟩ := I.list hq
    obtain ⟨u, hu, ru⟩ := rv.get hx
    obtain ⟨f0, f1, f2, f3, f4, f5⟩ := hf it (by simp)
    refine wpAny_pyNext_list_item st p.isList (x := u) (by simpa using hu) fun h' st' sb => ?_
    have I1 : Inv X pins σ H { s with heap := h' } := I.turned (t' := s.toks) (fun b o hb e => (sb.2 b hb).trans e) f0 f1 f3 f4 f5
    obtain ⟨o, e, c, d⟩ := id st'
    exact ⟨u, rfl, go_of (s := { s with heap := h' }) e c d (by decide) ⟨x, H, I1, ru, ⟨rfl, fun ys hy => by rw [I.list_inj hy hq]; exact hx⟩, st', fun b hb => (hf b hb).1⟩⟩
  done := by
    intro X hP hw hK hc i pins s σ H E I hf st hg
    subst hP hw hK
    obtain ⟨xs, hq, hx⟩ := hg
    obtain ⟨its, rv, p, hz⟩ := I.list hq
    obtain ⟨f0, f1, f2, f3, f4, f5⟩ := hf it (by simp)
    have hl := rv.length
    exact wpAny_pyNext_list_end (I.ok.hd hc) st p.isList (by simp; omega) fun h' eb => ⟨rfl, I.turned (t' := s.toks) (fun b o hb e => eb b o hb e) f0 f1 f3 f4 f5⟩
  self := fun _ _ _ _ _ st h => wpAny_pyIter_listiter st h
theorem turn_range {P : Program} {w : World} {K : PySem.W.Frag} {tg : Expr} (it : Addr) (lo : Int) (n : Nat) : Turn P w K tg (Itr lo n) [it] it (fun i h => IsRangeIter h it (lo + (i : Nat) * 1) ((n : Int) - (i : Nat)) 1) where
  mem := by simp
  obj := fun i h st b hb => by
    have e : b = it := by simpa using hb
    subst e
    exact ⟨_, st, fun v z => by
      have z' : Data.fields _ = Data.cell v := z
      cases z'⟩
  keep := fun i h h' st k => k it (by simp) _ st
  item := by
    intro X hP hw hK hc i pins s σ H E I hf st hg
    subst hP hw hK
    obtain ⟨f0, f1, f2, f3, f4, f5⟩ := hf it (by simp)
    have W := Walks.range (prog := X.prog) (w := X.w) (I.ok.hd hc) it lo 1 n
    refine W.item i s _ _ hg st fun v h' tk hv st' kk => ?_
    obtain ⟨t, rfl⟩ := hv
    have I1 : Inv X pins σ H { s with heap := h', toks := tk } := I.turned (fun b o hb e => kk b o (by simpa using hb) e) f0 f1 f3 f4 f5
    refine ⟨_, rfl, go_of (s := { s with heap := h', toks := tk }) (n := "range_iterator") st' rfl rfl (by decide) ⟨.int (lo + i), H, I1, ⟨t, ?_⟩, ⟨rfl, rfl⟩, st', fun b hb => (hf b hb).1⟩⟩
    rw [Int.mul_one]
  done := by
    intro X hP hw hK hc i pins s σ H E I hf st hg
    subst hP hw hK
    obtain ⟨f0, f1, f2, f3, f4, f5⟩ := hf it (by simp)
    exact wpAny_pyNext_range_end (I.ok.hd hc) st (by have : n ≤ i := hg; omega) fun h' eb => ⟨rfl, I.turned (t' := s.toks) (fun b o hb e => eb b o hb e) f0 f1 f3 f4 f5⟩
  self := fun _ _ _ _ _ st h => wpAny_pyIter_rangeiter st h
end L2
namespace L2
open PySem PySem.Spec PyProof.Rows
section
variable {X : Cx} {tg : Expr}
def iList (K : PySem.W.Frag) (tl : TE) : TI := fun σ H R => tl σ H fun x H1 => ∃ a, x = .ref a ∧ (∃ xs, SqL K H1 a xs) ∧ R (Itl K a) H1
theorem pi_list {l : Expr} {tl : TE} (hl : PE X l tl) : PI X tg l (iList X.K tl) := by
  intro pins s σ H R I h
  refine thn (hl pins s σ H _ I h) fun v s1 ⟨x, H1, I1, r1, q1⟩ => ?_
  obtain ⟨a, e, ⟨xs, hq⟩, q⟩ := q1
  subst e
  cases r1
  obtain ⟨its, rv, p, hz⟩ := I1.list hq
  refine wpAny_pyIter_list p.isList ?_
  refine ⟨s1.heap.objs.size, [s1.heap.objs.size], _, _, H1, rfl, I1.kept (t' := s1.toks) fun b o e => Heap.get?_push_of_some _ e, turn_list a _, ⟨_, Heap.get?_push_size _ rfl, rfl, rfl⟩, fun b hb => ?_, q⟩
  have e : b = s1.heap.objs.size := by simpa using hb
  subst e
  exact I1.fpOk (Nat.le_refl _) (I1.hok.fresh (Nat.le_refl _))
theorem range_it {pins : List (Addr × Obj)} {σ : St} {H : Hp} {s : Shared} {R : It → Hp → Prop} {E : Value → Shared → Prop} {lo hi : Int} {t u v : Tok} {tk : Nat} (I : Inv X pins σ H s) (h1 : -(2 ^ 62) ≤ lo) (h2 : lo < 2 ^ 62) (h3 : -(2 ^ 62) ≤ hi) (h4 : hi < 2 ^ 62)
    (q : R (Itr lo (hi - lo).toNat) H) : wpAny (model X.prog X.w) X.A (pyIter (.ref s.heap.objs.size)) (PIE X pins σ tg R) E { s with heap := s.heap.push { cls := .type "range", data := .fields #[.int lo t, .int hi u, .int 1 v] }, toks := tk } := by
  refine wpAny_pyIter_range (IsRange.new ..) (small_one h1 h2 h3 h4) ?_
  have I1 : Inv X pins σ H { s with heap := s.heap.push { cls := .type "range", data := .fields #[.int lo t, .int hi u, .int 1 v] }, toks := tk } := I.kept fun b o e => Heap.get?_push_of_some _ e
  refine ⟨(s.heap.push { cls := .type "range", data := .fields #[.int lo t, .int hi u, .int 1 v] }).objs.size, [(s.heap.push { cls := .type "range", data := .fields #[.int lo t, .int hi u, .int 1 v] }).objs.size], _, _, H, rfl,
    I1.kept (t' := tk) fun b o e => Heap.get?_push_of_some _ e, turn_range _ lo (hi - lo).toNat, ?_, fun b hb => ?_, q⟩
  · have e1 : lo + ((0 : Nat) : Int) * 1 = lo := by simp
    have e2 : (((hi - lo).toNat : Nat) : Int) - ((0 : Nat) : Int) = Builtin.Range.rangeSize lo hi 1 := by rw [rangeSize_one]; split <;> omega
    show IsRangeIter _ _ (lo + ((0 : Nat) : Int) * 1) ((((hi - lo).toNat : Nat) : Int) - ((0 : Nat) : Int)) 1
    rw [e1, e2]
    exact Heap.get?_push_size _ rfl
  · have e : b = (s.heap.push { cls := .type "range", data := .fields #[.int lo t, .int hi u, .int 1 v] }).objs.size := by simpa using hb
    subst e
    exact I1.fpOk (Nat.le_refl _) (I1.hok.fresh (Nat.le_refl _))
def iRng1 (ta : TA) : TI := fun σ H R => ta σ H fun vs H1 => ∃ j : Int, vs = [.int j] ∧ -(2 ^ 62) ≤ j ∧ j < 2 ^ 62 ∧ R (Itr 0 j.toNat) H1
theorem pi_range1 {a : Expr} {ta : TA} {p pos : Pos} (hg : Gl X "range") (hm : X.mg "range" = none) (ha : PA X [a] ta) (hs : starEach [a] X.env = [(false, eval a X.env)] := by rfl) : PI X tg (.Call (.Name "range" p) [a] [] pos) (iRng1 ta) := by
  intro pins s σ H R I h
  refine Call_ (ld_blt I hg hm boot_range (PyProof.Rows.callWith_type1 (thn (ha pos pins s σ H _ I h) fun us s1 ⟨vs, H1, I1, r1, q1⟩ => ?_) hs rfl))
  obtain ⟨j, e, q1, q2, q⟩ := q1
  subst e
  cases r1 with
  | cons r rr =>
    cases rr
    obtain ⟨t, rfl⟩ := r
    exact call_range_1 (range_it I1 (by omega) (by omega) q1 q2 (by simpa using q))
def tFor (wi : TI) (g : TG) (tb : TS) : TS := fun D σ H => wi σ H fun J H1 => ∃ W : Nat → Nat → St → Hp → Prop, (∃ m, W 0 m σ H1) ∧ ∀ i m σ H, W i m σ H →
  (J.stop i H ∧ D.nx σ H) ∨ (J.go i H ∧ ∃ N : St → Hp → Prop, (∀ σ' H', N σ' H' → ∃ m', m' < m ∧ W (i + 1) m' σ' H') ∧ ∀ x H', J.yld i H x H' → g x σ H' fun σ2 H2 => tb { D with nx := N, ct := N, bk := D.nx } σ2 H2)
def pinsAt (fp : List Addr) (h : Heap) : List (Addr × Obj) := fp.filterMap fun b => (h.get? b).map fun o => (b, o)
theorem mem_pinsAt {fp : List Addr} {h : Heap} {b : Addr} {o : Obj} (hb : b ∈ fp) (e : h.get? b = some o) : (b, o) ∈ pinsAt fp h := List.mem_filterMap.mpr ⟨b, hb, by rw [e]; rfl⟩
theorem of_pinsAt {fp : List Addr} {h : Heap} {p : Addr × Obj} (hp : p ∈ pinsAt fp h) : p.1 ∈ fp ∧ h.get? p.1 = some p.2 := by
  obtain ⟨b, hb, e⟩ := List.mem_filterMap.mp hp
  cases q : h.get? b with
  | none => rw [q] at e; cases e
  | some o =>
    rw [q] at e
    have e' : (b, o) = p := Option.some.inj e
    subst e'
    exact ⟨hb, q⟩
theorem Inv.pinned {pins : List (Addr × Obj)} {σ : St} {H : Hp} {s : Shared} {fp : List Addr} (I : Inv X pins σ H s) (hf : ∀ b ∈ fp, FpOk X pins H b) (ho : ∀ b ∈ fp, ∃ o, s.heap.get? b = some o ∧ ∀ v, o.data ≠ .cell v) : Inv X (pins ++ pinsAt fp s.heap) σ H s :=
  I.pins_of fun p hp => (List.mem_append.mp hp).elim (fun z => I.pin p (List.mem_append_right _ z)) fun z => by
    obtain ⟨hb, e⟩ := of_pinsAt z
    obtain ⟨f0, f1, f2, _⟩ := hf p.1 hb
    obtain ⟨o, e', d⟩ := ho p.1 hb
    rw [e] at e'; cases e'
    exact ⟨e, f0, f1, f2, d⟩
theorem Inv.unpinned {pins pl : List (Addr × Obj)} {σ : St} {H : Hp} {s : Shared} (I : Inv X (pins ++ pl) σ H s) : Inv X pins σ H s := I.pins_of fun p hp => I.pin p (List.mem_append_right _ (List.mem_append_left _ hp))
theorem ps_for {iter : Expr} {body : List Stmt} {wi : TI} {g : TG} {tb : TS} {pos : Pos} (hp : PassesOwn (model X.prog X.w) X.A X.env X.xe) (hc : X.calm = true) (hi : PI X tg iter wi) (hg : PG X tg g) (hb : PSs X body tb)
    (hs : ∀ x, foldedSetIterable iter X.env x = pure x := by intro _; rfl) : PS X (.For tg iter body [] pos) (tFor wi g tb) := by
  intro pins s σ H D I h
  refine wpAny_For (thn (hi pins s σ H _ I h) fun v s1 h1 => thn h1 fun itv s2 h2 => ?_) hs
  obtain ⟨it, fp, tn, J, H2, e, I2, T, st2, f2, W, ⟨m0, w0⟩, turn⟩ := h2
  subst e
  -- what stays true of the iterator's objects through the loop
  have stat : ∀ {H' : Hp}, (∀ b ∈ fp, H' b = none) → ∀ b ∈ fp, FpOk X pins H' b := fun hn b hb => ⟨hn b hb, (f2 b hb).2⟩
  refine codeAny_forLoop_any (fun n s' => ∃ i σ' H', Inv X pins σ' H' s' ∧ tn i s'.heap ∧ (∀ b ∈ fp, H' b = none) ∧ W i n σ' H') ?_ m0 ⟨0, σ, H2, I2, st2, fun b hb => (f2 b hb).1, w0⟩
  rintro n s3 ⟨i, σ3, H3, I3, st3, fr3, w3⟩
  rcases turn i n σ3 H3 w3 with ⟨stop, qn⟩ | ⟨go, N, hN, step⟩
  · refine wpAny_passesOwn hp (thn (T.done X rfl rfl rfl hc i pins s3 σ3 H3 X.xe I3 (stat fr3) st3 stop) fun r s4 ⟨hr, I4⟩ => ?_)
    subst hr
    exact wpAny_execs_nil ⟨σ3, H3, I4, qn⟩
  · refine wpAny_passesOwn hp (thn (T.item X rfl rfl rfl hc i pins s3 σ3 H3 X.xe I3 (stat fr3) st3 go) fun r s4 ⟨u, hr, h4⟩ => ?_)
    subst hr
    refine wpAny_passesOwn hp (thn h4 fun _ s5 ⟨x, H5, I5, r5, y5, st5, fr5⟩ => ?_)
    have I5' := I5.pinned (stat fr5) (T.obj _ _ st5)
    refine wpAny_passesOwn hp (thn (hg _ s5 σ3 H5 x u _ I5' r5 (step x H5 y5)) fun _ s6 ⟨σ6, H6, I6, q6⟩ => ?_)
    refine wpAny_passesOwn hp (thn (hb _ s6 σ6 H6 _ I6 q6) fun f s7 q7 => ?_)
    have again : ∀ {σ7 : St} {H7 : Hp}, Inv X (pins ++ pinsAt fp s5.heap) σ7 H7 s7 → N σ7 H7 → ∃ m, m < n ∧ ∃ i σ' H', Inv X pins σ' H' s7 ∧ tn i s7.heap ∧ (∀ b ∈ fp, H' b = none) ∧ W i m σ' H' := fun {σ7 H7} I7 n7 => by
      obtain ⟨m', hm, w7⟩ := hN σ7 H7 n7
      refine ⟨m', hm, i + 1, σ7, H7, I7.unpinned, T.keep _ _ _ st5 fun b hb o e => (I7.pin (b, o) (List.mem_append_right _ (List.mem_append_right _ (mem_pinsAt hb e)))).1, fun b hb => ?_, w7⟩
      obtain ⟨o, e, d⟩ := T.obj _ _ st5 b hb
      exact (I7.pin (b, o) (List.mem_append_right _ (List.mem_append_right _ (mem_pinsAt hb e)))).2.1
    cases f with
    | next => obtain ⟨σ7, H7, I7, n7⟩ := q7; exact again I7 n7
    | cont => obtain ⟨σ7, H7, I7, n7⟩ := q7; exact again I7 n7
    | brk => obtain ⟨σ7, H7, I7, q7⟩ := q7; exact ⟨σ7, H7, I7.unpinned, q7⟩
    | ret v => obtain ⟨x7, σ7, H7, I7, r7, q7⟩ := q7; exact ⟨x7, σ7, H7, I7.unpinned, r7, q7⟩
end
theorem for_range {lo : Int} {n : Nat} {g : TG} {tb : TS} {D : Ends} {σ : St} {H : Hp} (Pv : Nat → St → Hp → Prop) (h0 : Pv 0 σ H)
    (hs : ∀ i σ H, i < n → Pv i σ H → g (.int (lo + i)) σ H fun σ2 H2 => tb { D with nx := Pv (i + 1), ct := Pv (i + 1), bk := D.nx } σ2 H2) (hd : ∀ σ H, Pv n σ H → D.nx σ H) :
    ∃ W : Nat → Nat → St → Hp → Prop, (∃ m, W 0 m σ H) ∧ ∀ i m σ H, W i m σ H →
      ((Itr lo n).stop i H ∧ D.nx σ H) ∨ ((Itr lo n).go i H ∧ ∃ N : St → Hp → Prop, (∀ σ' H', N σ' H' → ∃ m', m' < m ∧ W (i + 1) m' σ' H') ∧ ∀ x H', (Itr lo n).yld i H x H' → g x σ H' fun σ2 H2 => tb { D with nx := N, ct := N, bk := D.nx } σ2 H2) := by
  refine ⟨fun i m σ H => m = n - i ∧ i ≤ n ∧ Pv i σ H, ⟨n, by simp, Nat.zero_le _, h0⟩, ?_⟩
  rintro i m σ H ⟨rfl, hi, p⟩
  by_cases hlt : i < n
  · refine .inr ⟨hlt, Pv (i + 1), fun σ' H' p' => ⟨n - (i + 1), by omega, rfl, hlt, p'⟩, fun x H' y => ?_⟩
    obtain ⟨e, y⟩ := y
    subst e y
    exact hs i σ _ hlt p
  · have e : i = n := by omega
    subst e
    exact .inl ⟨Nat.le_refl _, hd σ H p⟩
end L2
namespace L2
open PySem PySem.Spec PyProof.Rows
abbrev R2 := V → V → Hp → VK → Prop
def OpR (X : Cx) (f : Value → Value → Sem Value) (r : R2) : Prop :=
  ∀ (pins : List (Addr × Obj)) (s : Shared) (σ : St) (H : Hp) (x y : V) (v u : Value) (Q : VK), Inv X pins σ H s → RelV x v → RelV y u → r x y H Q →
    wpAny (model X.prog X.w) X.A (f v u) (EP X pins σ Q) X.xe s
def CallR (X : Cx) (f : Value) (r : List V → Hp → VK → Prop) : Prop :=
  ∀ (pins : List (Addr × Obj)) (s : Shared) (σ : St) (H : Hp) (xs : List V) (us : List Value) (Q : VK), Inv X pins σ H s → Vals xs us → r xs H Q →
    wpAny (model X.prog X.w) X.A (call f us) (EP X pins σ Q) X.xe s
def tOp (r : R2) (ta tb : TE) : TE := fun σ H Q => ta σ H fun x H1 => tb σ H1 fun y H2 => r x y H2 Q
def rI (C : Int → Int → Prop) (g : Int → Int → V) : R2 := fun x y H Q => ∃ i j, x = .int i ∧ y = .int j ∧ C i j ∧ Q (g i j) H
def rI0 (g : Int → Int → V) : R2 := fun x y H Q => ∃ i j, x = .int i ∧ y = .int j ∧ Q (g i j) H
section
variable {X : Cx} {a b c : Expr} {ta tb tc : TE} {pos : Pos}
theorem binT (ha : PE X a ta) (hb : PE X b tb) {pins : List (Addr × Obj)} {s : Shared} {σ : St} {H : Hp} {R : V → V → Hp → Prop} (I : Inv X pins σ H s)
    (h : ta σ H fun x H1 => tb σ H1 fun y H2 => R x y H2) {Q : Value → Shared → Prop} {f : Value → Value → Sem Value}
    (hf : ∀ v u s2 x y H2, Inv X pins σ H2 s2 → RelV x v → RelV y u → R x y H2 → wpAny (model X.prog X.w) X.A (f v u) Q X.xe s2) :
    wpAny (model X.prog X.w) X.A (eval a X.env) (fun v s₁ => wpAny (model X.prog X.w) X.A (eval b X.env) (fun u s₂ => wpAny (model X.prog X.w) X.A (f v u) Q X.xe s₂) X.xe s₁) X.xe s := by
  refine thn (ha pins s σ H _ I h) fun v s1 ⟨x, H1, I1, r1, q1⟩ => ?_
  refine thn (hb pins s1 σ H1 _ I1 q1) fun u s2 ⟨y, H2, I2, r2, q2⟩ => ?_
  exact hf v u s2 x y H2 I2 r1 r2 q2
theorem pe_op {op : Operator} {r : R2} (ho : OpR X (binaryOp op) r) (ha : PE X a ta) (hb : PE X b tb) : PE X (.BinOp a op b pos) (tOp r ta tb) := by
  intro pins s σ H Q I h
  exact wpAny_BinOp (binT ha hb I h fun v u s2 x y H2 I2 rx ry q => ho pins s2 σ H2 x y v u Q I2 rx ry q)
theorem opI {f : Value → Value → Sem Value} {C : Int → Int → Prop} {g : Int → Int → Int}
    (rule : ∀ (i j : Int) (t u : Tok) (s : Shared) (Q : Value → Shared → Prop) (E : Value → Shared → Prop), C i j → Q (.int (g i j) s.toks) { s with toks := s.toks + 1 } → wpAny (model X.prog X.w) X.A (f (.int i t) (.int j u)) Q E s) :
    OpR X f (rI C fun i j => .int (g i j)) := by
  intro pins s σ H x y v u Q I rx ry h
  obtain ⟨i, j, rfl, rfl, hc, q⟩ := h
  obtain ⟨t, rfl⟩ := rx
  obtain ⟨t', rfl⟩ := ry
  exact rule i j t t' s _ _ hc ⟨.int (g i j), H, I.tok _, ⟨_, rfl⟩, q⟩
theorem opI0 {f : Value → Value → Sem Value} {g : Int → Int → Int}
    (rule : ∀ (i j : Int) (t u : Tok) (s : Shared) (Q : Value → Shared → Prop) (E : Value → Shared → Prop), Q (.int (g i j) s.toks) { s with toks := s.toks + 1 } → wpAny (model X.prog X.w) X.A (f (.int i t) (.int j u)) Q E s) :
    OpR X f (rI0 fun i j => .int (g i j)) := by
  intro pins s σ H x y v u Q I rx ry h
  obtain ⟨i, j, rfl, rfl, q⟩ := h
  obtain ⟨t, rfl⟩ := rx
  obtain ⟨t', rfl⟩ := ry
  exact rule i j t t' s _ _ ⟨.int (g i j), H, I.tok _, ⟨_, rfl⟩, q⟩
theorem opB0 {f : Value → Value → Sem Value} {g : Int → Int → Bool}
    (rule : ∀ (i j : Int) (t u : Tok) (s : Shared) (Q : Value → Shared → Prop) (E : Value → Shared → Prop), Q (.bool (g i j)) s → wpAny (model X.prog X.w) X.A (f (.int i t) (.int j u)) Q E s) :
    OpR X f (rI0 fun i j => .bl (g i j)) := by
  intro pins s σ H x y v u Q I rx ry h
  obtain ⟨i, j, rfl, rfl, q⟩ := h
  obtain ⟨t, rfl⟩ := rx
  obtain ⟨t', rfl⟩ := ry
  exact rule i j t t' s _ _ ⟨.bl (g i j), H, I, rfl, q⟩
def CDiv (i j : Int) : Prop := 0 < j ∧ j < 1073741824
def CPow (i j : Int) : Prop := 0 ≤ j ∧ j ≤ 1000000 ∧ i.natAbs < 2 ^ 64
def CMul (i j : Int) : Prop := (-(2 ^ 64) < i ∧ i < 2 ^ 64) ∨ (-(2 ^ 64) < j ∧ j < 2 ^ 64)
theorem CMul.ok {i j : Int} (h : CMul i j) : IntMulOk i j := by
  rcases h with ⟨h1, h2⟩ | ⟨h1, h2⟩
  · exact .of_left (intBits_le_64 h1 h2)
  · exact .of_right (intBits_le_64 h1 h2)
theorem op_add : OpR X (binaryOp .Add) (rI0 fun i j => .int (i + j)) := opI0 fun _ _ _ _ _ _ _ q => add_int q
theorem op_mod : OpR X (binaryOp .Mod) (rI (fun _ j => 0 < j) fun i j => .int (i % j)) := opI fun i j _ _ _ _ _ hc q => by
  have h1 : (0 : Int) < j := hc
  exact mod_int' (by omega) (by rw [Int.fmod_eq_emod_of_nonneg i (by omega)]; exact q)
theorem op_pow : OpR X (binaryOp .Pow) (rI CPow fun i j => .int (i ^ j.toNat)) := opI fun _ _ _ _ _ _ _ hc q => pow_int_small hc.1 hc.2.1 hc.2.2 q
end
def scal : V → V → Bool
  | .non, .non => true | .non, .int _ => true | .int _, .non => true | .non, .bl _ => true | .bl _, .non => true | .non, .str _ => true | .str _, .non => true
  | .int _, .int _ => true | .bl _, .bl _ => true | .str _, .str _ => true | .byt _, .byt _ => true
  | .int _, .str _ => true | .str _, .int _ => true | .bl _, .str _ => true | .str _, .bl _ => true
  | _, _ => false
def rEq : R2 := fun x y H Q => scal x y = true ∧ Q (.bl (decide (x = y))) H
def rNe : R2 := fun x y H Q => scal x y = true ∧ Q (.bl (!decide (x = y))) H
theorem dec_int {i j : Int} : decide (V.int i = V.int j) = (i == j) := by
  rw [Bool.eq_iff_iff]
  simp
theorem dec_bl {i j : Bool} : decide (V.bl i = V.bl j) = (i == j) := by
  rw [Bool.eq_iff_iff]
  simp
theorem dec_str {i j : Str} : decide (V.str i = V.str j) = (i == j) := by
  rw [Bool.eq_iff_iff]
  simp
theorem dec_byt {i j : Array UInt8} : decide (V.byt i = V.byt j) = (i.toList == j.toList) := by
  rw [Bool.eq_iff_iff]
  cases i
  cases j
  simp
section
variable {X : Cx} {a b c : Expr} {ta tb tc : TE} {pos : Pos}
theorem fin_bl {pins : List (Addr × Obj)} {σ : St} {H : Hp} {s : Shared} {Q : VK} {k k' : Bool} (I : Inv X pins σ H s) (q : Q (.bl k) H) (e : k = k') : EP X pins σ Q (.bool k') s := by
  subst e
  exact ⟨.bl k, H, I, rfl, q⟩
theorem op_eq : OpR X (compareOp .Eq) rEq := by
  intro pins s σ H x y v u Q I rx ry h
  obtain ⟨hs, q⟩ := h
  cases x with
  | non =>
    cases rx
    cases y with
    | non => cases ry; exact PySem.EqNone.eq_none_none (fin_bl I q (by simp))
    | bl j => cases ry; exact PySem.EqNone.eq_none_bool (fin_bl I q (by simp))
    | int j => obtain ⟨t', rfl⟩ := ry; exact PySem.EqNone.eq_none_int (fin_bl I q (by simp))
    | str j => obtain ⟨t', rfl⟩ := ry; exact PySem.EqNone.eq_none_str (fin_bl I q (by simp))
    | _ => exact absurd (show false = true from hs) Bool.false_ne_true
  | bl i =>
    cases rx
    cases y with
    | non => cases ry; exact PySem.EqNone.eq_bool_none (fin_bl I q (by simp))
    | bl j => cases ry; exact eq_bool (fin_bl I q dec_bl)
    | str j => obtain ⟨t', rfl⟩ := ry; exact PySem.EqMixed.eq_bool_str (fin_bl I q (by simp))
    | _ => exact absurd (show false = true from hs) Bool.false_ne_true
  | int i =>
    obtain ⟨t, rfl⟩ := rx
    cases y with
    | non => cases ry; exact PySem.EqNone.eq_int_none (fin_bl I q (by simp))
    | int j => obtain ⟨t', rfl⟩ := ry; exact eq_int (fin_bl I q dec_int)
    | str j => obtain ⟨t', rfl⟩ := ry; exact PySem.EqMixed.eq_int_str (fin_bl I q (by simp))
    | _ => exact absurd (show false = true from hs) Bool.false_ne_true
  | str i =>
    obtain ⟨t, rfl⟩ := rx
    cases y with
    | non => cases ry; exact PySem.EqNone.eq_str_none (fin_bl I q (by simp))
    | bl j => cases ry; exact PySem.EqMixed.eq_str_bool (fin_bl I q (by simp))
    | int j => obtain ⟨t', rfl⟩ := ry; exact PySem.EqMixed.eq_str_int (fin_bl I q (by simp))
    | str j => obtain ⟨t', rfl⟩ := ry; exact eq_str (fin_bl I q dec_str)
    | _ => exact absurd (show false = true from hs) Bool.false_ne_true
  | byt i =>
    obtain ⟨t, rfl⟩ := rx
    cases y with
    | byt j => obtain ⟨t', rfl⟩ := ry; exact PySem.W.eq_bytes (fin_bl I q dec_byt)
    | _ => exact absurd (show false = true from hs) Bool.false_ne_true
  | _ => cases y <;> exact absurd (show false = true from hs) Bool.false_ne_true
theorem op_ne : OpR X (compareOp .NotEq) rNe := by
  intro pins s σ H x y v u Q I rx ry h
  obtain ⟨hs, q⟩ := h
  cases x with
  | non =>
    cases rx
    cases y with
    | non => cases ry; exact PySem.EqNone.ne_none_none (fin_bl I q (by simp))
    | bl j => cases ry; exact PySem.EqNone.ne_none_bool (fin_bl I q (by simp))
    | int j => obtain ⟨t', rfl⟩ := ry; exact PySem.EqNone.ne_none_int (fin_bl I q (by simp))
    | str j => obtain ⟨t', rfl⟩ := ry; exact PySem.EqNone.ne_none_str (fin_bl I q (by simp))
    | _ => exact absurd (show false = true from hs) Bool.false_ne_true
  | bl i =>
    cases rx
    cases y with
    | non => cases ry; exact PySem.EqNone.ne_bool_none (fin_bl I q (by simp))
    | bl j => cases ry; exact ne_bool (fin_bl I q (congrArg not dec_bl))
    | str j => obtain ⟨t', rfl⟩ := ry; exact PySem.EqMixed.ne_bool_str (fin_bl I q (by simp))
    | _ => exact absurd (show false = true from hs) Bool.false_ne_true
  | int i =>
    obtain ⟨t, rfl⟩ := rx
    cases y with
    | non => cases ry; exact PySem.EqNone.ne_int_none (fin_bl I q (by simp))
    | int j => obtain ⟨t', rfl⟩ := ry; exact ne_int (fin_bl I q (congrArg not dec_int))
    | str j => obtain ⟨t', rfl⟩ := ry; exact PySem.EqMixed.ne_int_str (fin_bl I q (by simp))
    | _ => exact absurd (show false = true from hs) Bool.false_ne_true
  | str i =>
    obtain ⟨t, rfl⟩ := rx
    cases y with
    | non => cases ry; exact PySem.EqNone.ne_str_none (fin_bl I q (by simp))
    | bl j => cases ry; exact PySem.EqMixed.ne_str_bool (fin_bl I q (by simp))
    | int j => obtain ⟨t', rfl⟩ := ry; exact PySem.EqMixed.ne_str_int (fin_bl I q (by simp))
    | str j => obtain ⟨t', rfl⟩ := ry; exact ne_str (fin_bl I q (congrArg not dec_str))
    | _ => exact absurd (show false = true from hs) Bool.false_ne_true
  | byt i =>
    obtain ⟨t, rfl⟩ := rx
    cases y with
    | byt j => obtain ⟨t', rfl⟩ := ry; exact PySem.W.ne_bytes (fin_bl I q (congrArg not dec_byt))
    | _ => exact absurd (show false = true from hs) Bool.false_ne_true
  | _ => cases y <;> exact absurd (show false = true from hs) Bool.false_ne_true
theorem op_lt : OpR X (compareOp .Lt) (rI0 fun i j => .bl (decide (i < j))) := opB0 fun _ _ _ _ _ _ _ q => lt_int q
theorem op_gt : OpR X (compareOp .Gt) (rI0 fun i j => .bl (decide (j < i))) := opB0 fun _ _ _ _ _ _ _ q => gt_int q
theorem op_isN : OpR X (compareOp .Is) (fun x y H Q => y = .non ∧ Q (.bl (decide (x = .non))) H) := by
  intro pins s σ H x y v u Q I rx ry h
  obtain ⟨rfl, q⟩ := h
  cases ry
  refine is_none_gen (fin_bl I q ?_)
  cases x <;> first
    | (cases rx; rfl)
    | (obtain ⟨t, rfl⟩ := rx; rfl)
theorem op_notN : OpR X (compareOp .IsNot) (fun x y H Q => y = .non ∧ Q (.bl (!decide (x = .non))) H) := by
  intro pins s σ H x y v u Q I rx ry h
  obtain ⟨rfl, q⟩ := h
  cases ry
  refine isnot_none_gen (fin_bl I q ?_)
  cases x <;> first
    | (cases rx; rfl)
    | (obtain ⟨t, rfl⟩ := rx; rfl)
theorem nomark (b : Expr) {op : CmpOp} (h : op ≠ .In := by decide) (h2 : op ≠ .NotIn := by decide) : behindInMarks op b = false := by
  have e1 : (op == CmpOp.In) = false := by cases op <;> first | rfl | exact absurd rfl h
  have e2 : (op == CmpOp.NotIn) = false := by cases op <;> first | rfl | exact absurd rfl h2
  cases b <;> simp [behindInMarks, e1, e2]
theorem pe_cmpR {op : CmpOp} {r : R2} (ho : OpR X (compareOp op) r) (ha : PE X a ta) (hb : PE X b tb) (hm : behindInMarks op b = false) : PE X (.Compare a [op] [b] pos) (tOp r ta tb) := by
  intro pins s σ H Q I h
  exact wpAny_Compare1 (binT ha hb I h fun v u s2 x y H2 I2 rx ry q => ho pins s2 σ H2 x y v u Q I2 rx ry q) hm
def tTest (t : TE) : TT := fun σ H Q => t σ H fun x H' => ∃ k, x = .bl k ∧ Q k H'
theorem pt_cmpR {op : CmpOp} {r : R2} (ho : OpR X (compareOp op) r) (ha : PE X a ta) (hb : PE X b tb) (hm : behindInMarks op b = false) : PT X (.Compare a [op] [b] pos) (tTest (tOp r ta tb)) := by
  intro pins s σ H Q I h
  refine wpAny_isTrue_Compare1 (thn (ha pins s σ H _ I h) fun v s1 ⟨x, H1, I1, r1, q1⟩ => thn (hb pins s1 σ H1 _ I1 q1) fun u s2 ⟨y, H2, I2, r2, q2⟩ =>
    thn (ho pins s2 σ H2 x y v u _ I2 r1 r2 q2) fun c s3 ⟨z, H3, I3, r3, k, e, q3⟩ => ?_) hm
  subst e
  cases r3
  exact wpAny_truthy_bool ⟨H3, I3, q3⟩
theorem line63 : (sizeLine : Nat) < 2 ^ 63 := by rw [sizeLine_eq]; decide
theorem vals1 {x : V} {us : List Value} (r : Vals [x] us) : ∃ u, us = [u] ∧ RelV x u := by
  cases r with
  | cons r1 r2 => cases r2; exact ⟨_, rfl, r1⟩
theorem vals2 {x y : V} {us : List Value} (r : Vals [x, y] us) : ∃ u w', us = [u, w'] ∧ RelV x u ∧ RelV y w' := by
  cases r with
  | cons r1 r2 =>
    cases r2 with
    | cons r3 r4 => cases r4; exact ⟨_, _, rfl, r1, r3⟩
theorem call_divmod : CallR X (.builtin "divmod") (fun xs H Q => ∃ i j, xs = [.int i, .int j] ∧ CDiv i j ∧ ∀ p, H p = none → Q (.ref p) (upd H p (.tup [.int (i / j), .int (i % j)]))) := by
  intro pins s σ H xs us Q I r h
  obtain ⟨i, j, rfl, ⟨h1, h2⟩, q⟩ := h
  obtain ⟨u, w', rfl, ⟨t, rfl⟩, ⟨t', rfl⟩⟩ := vals2 r
  refine divmod_int (by omega) ?_ (.inl (PyProof.noPylong_small (by omega)))
  rw [Int.fdiv_eq_ediv_of_nonneg i (by omega), Int.fmod_eq_emod_of_nonneg i (by omega)]
  have hn : H s.heap.objs.size = none := I.hok.fresh (Nat.le_refl _)
  refine ⟨.ref s.heap.objs.size, _, ?_, rfl, q _ hn⟩
  refine I.laid (fun b o e => Heap.get?_push_of_some _ e) (Nat.le_refl _) ⟨by simp only [List.length_cons, List.length_nil]; rw [sizeLine_eq]; decide, [.int (i / j) s.toks, .int (i % j) (s.toks + 1)], .cons ⟨_, rfl⟩ (.cons ⟨_, rfl⟩ .nil), ?_⟩
  exact ⟨_, Heap.get?_push_size s.heap rfl, rfl, 0, rfl⟩
end
end L2
namespace L2
open PySem PySem.Spec PyProof.Rows
structure ObjM (h : Heap) (x dx C : Addr) (mA : Str → Option Value) : Prop where
  obj : h.get? x = some (PySem.W.instObj C dx)
  ns : h.Ns1 dx mA
  ne : dx ≠ x
theorem lookIn_ns {h : Heap} {dx : Addr} {mA : Str → Option Value} (n : h.Ns1 dx mA) : ∃ od, h.get? dx = some od ∧ ∀ name, PySem.W.lookIn name od = some (mA name) := by
  obtain ⟨o, es, ep, ho, hd, hk, _, hm⟩ := n
  refine ⟨o, ho, fun name => ?_⟩
  have e := hm name
  unfold nsFind findBy at e
  rw [← Array.find?_toList] at e
  unfold PySem.W.lookIn
  rw [hd]
  dsimp only
  split
  · rename_i y q
    rw [q] at e
    exact congrArg some e
  · rename_i q
    rw [q] at e
    have a : es.toList.any (·.refKey) = false := by
      rw [List.any_eq_false]
      intro y hy
      obtain ⟨z, t, hkey⟩ := hk y (Array.mem_toList_iff.mp hy)
      simp [DictEntry.refKey, hkey]
    have a' : ¬ es.toList.any (·.refKey) = true := by rw [a]; exact Bool.false_ne_true
    rw [if_neg a']
    exact congrArg some e
theorem ObjM.look {h : Heap} {x dx C : Addr} {mA : Str → Option Value} (I : ObjM h x dx C mA) : ∃ od, PySem.W.InstAt h x (PySem.W.instObj C dx) C (some od) ∧ ∀ name, PySem.W.lookIn name od = some (mA name) :=
  let ⟨od, ho, hl⟩ := lookIn_ns I.ns
  ⟨od, ⟨I.obj, rfl, rfl, ho⟩, hl⟩
section
variable {prog : Program} {w : World} {A : Around} {E : Value → Shared → Prop} {s : Shared} {K : PySem.W.Frag} {x dx C f : Addr} {mA : Str → Option Value} {name : Str} {v : Value}
end
section
variable {P : Program} {w : World} {H H' : Hp} {h h' : Heap} {a C dx : Addr} {fs fs' : List (Str × V)}
end
structure Cls (K : PySem.W.Frag) (C : Addr) : Prop where
  pg : PySem.W.plainGet K C Str.empty = true
  hd : PySem.W.hasDictIn K C = true
  po : PySem.W.plainOver K C = true
  sa : PySem.W.findIn K (.ref C) "__setattr__" = some (some (.builtin "object.__setattr__"))
theorem Cls.get {K : PySem.W.Frag} {C : Addr} (c : Cls K C) (f : Str) : PySem.W.plainGet K C f = true := c.pg
structure Meth (K : PySem.W.Frag) (C : Addr) (m : Str) (f : Addr) : Prop where
  at_ : PySem.W.findIn K (.ref C) m = some (some (.ref f))
  fn : PySem.W.isFn K (.ref f) = true
  kp : PySem.W.keepIn K (.ref f) = true
section
variable {X : Cx} {pins : List (Addr × Obj)} {σ : St} {H : Hp} {s : Shared} {a C dx : Addr} {fs : List (Str × V)} {f : Str} {v : V} {A : Around} {E : Value → Shared → Prop}
theorem Inv.made (I : Inv X pins σ H s) : Inv X pins σ (upd (upd H s.heap.objs.size (.own (s.heap.objs.size + 1))) (s.heap.objs.size + 1) (.ins C s.heap.objs.size []))
    { s with heap := (s.heap.push PySem.W.emptyDict).push (PySem.W.instObj C s.heap.objs.size) } := by
  have e1 : (s.heap.push PySem.W.emptyDict).get? s.heap.objs.size = some PySem.W.emptyDict := Heap.get?_push_size s.heap rfl
  have e2 : ((s.heap.push PySem.W.emptyDict).push (PySem.W.instObj C s.heap.objs.size)).get? (s.heap.objs.size + 1) = some (PySem.W.instObj C s.heap.objs.size) := by
    have := Heap.get?_push_size (s.heap.push PySem.W.emptyDict) (o := PySem.W.instObj C s.heap.objs.size) rfl
    rwa [Heap.size_push] at this
  have e3 : (s.heap.push PySem.W.emptyDict).Ns s.heap.objs.size (fun _ => none) := ⟨PySem.W.emptyDict, #[], _, e1, rfl, (fun e he => absurd he (by simp)), fun _ => rfl⟩
  have I1 := I.laid (a := s.heap.objs.size) (o := .own (s.heap.objs.size + 1)) (h' := s.heap.push PySem.W.emptyDict) (t' := s.toks) (fun b u q => Heap.get?_push_of_some _ q) (Nat.le_refl _) ⟨_, e1⟩
  refine I1.laid (a := s.heap.objs.size + 1) (o := .ins C s.heap.objs.size []) (t' := s.toks) (fun b u q => Heap.get?_push_of_some _ q) (Nat.le_of_eq (Heap.size_push _ _)) ?_
  have ne : s.heap.objs.size ≠ s.heap.objs.size + 1 := Nat.ne_of_lt (Nat.lt_succ_self _)
  refine ⟨by rw [upd_ne ne, upd_same], Nat.zero_le _, ne, e2, fun _ => none, (Heap.Ns1.of_empty e3).at fun o q => Heap.get?_push_of_some _ q, fun _ => True.intro, fun y hy => absurd rfl hy⟩
end
section
variable {X : Cx} {o e value : Expr} {f : Str} {pos pos' tpos : Pos} {ta tv : TE}
end
section
variable {X : Cx} {pins : List (Addr × Obj)} {σ : St} {H : Hp} {s : Shared} {A : Around} {E : Value → Shared → Prop} {Q : Value → Shared → Prop} {c : Value} {b : Bool}
end
end L2
namespace L2
open PySem PySem.Spec PyProof.Rows
structure Room (k : Nat) (A : Around) : Prop where
  hd : A.handled = none
  dp : A.depth + 3 * k + 5 < recursionLimit
  un : A.units + 16 * k + 200 < cLine
theorem Room.mono {j k : Nat} {A : Around} (r : Room k A) (h : j ≤ k) : Room j A := ⟨r.hd, by have := r.dp; omega, by have := r.un; omega⟩
theorem Room.deeper {k : Nat} {A : Around} (r : Room (k + 1) A) (env : Env) : Room k (A.deeper env) :=
  ⟨r.hd, by have := r.dp; show A.depth + 1 + 3 * k + 5 < _; omega, by have := r.un; show A.units + 3 + 16 * k + 200 < _; omega⟩
theorem Room.in1 {k : Nat} {A : Around} (r : Room (k + 1) A) : Room k A.in1 :=
  ⟨r.hd, by have := r.dp; show A.depth + 3 * k + 5 < _; omega, by have := r.un; show A.units + 1 + 16 * k + 200 < _; omega⟩
theorem Room.depth {k : Nat} {A : Around} (r : Room k A) : A.depth < recursionLimit := by have := r.dp; omega
theorem Room.units {k : Nat} {A : Around} (r : Room k A) : A.units + 64 < cLine := by have := r.un; omega
def tNil : TA := fun _ H Q => Q [] H
def tCons (ta : TE) (tr : TA) : TA := fun σ H Q => ta σ H fun x H1 => tr σ H1 fun xs H2 => Q (x :: xs) H2
section
variable {X : Cx} {e : Expr} {es : List Expr} {te : TE} {t : TA} {pos : Pos}
theorem pa_nil : PA X [] tNil := fun _ _ _ _ H Q I h => Calls.spliced_nil ⟨[], H, I, .nil, h⟩
theorem pa_cons (ha : PE X e te) (hr : PA X es t) (hs : starEach (e :: es) X.env = (false, eval e X.env) :: starEach es X.env := by rfl) : PA X (e :: es) (tCons te t) := by
  intro pos pins s σ H Q I h
  rw [hs]
  show wpAny _ _ (spliced ((false, eval e X.env) :: backTo pos (starEach es X.env))) _ _ s
  refine Calls.spliced_cons (thn (ha pins s σ H _ I h) fun u s1 ⟨x, H1, I1, r1, q1⟩ => ?_)
  exact thn (hr pos pins s1 σ H1 _ I1 q1) fun us s2 ⟨xs, H2, I2, r2, q2⟩ => ⟨x :: xs, H2, I2, .cons r1 r2, q2⟩
def tTup (t : TA) : TE := fun σ H Q => t σ H fun xs H1 => xs.length ≤ sizeLine ∧ ∀ p, H1 p = none → Q (.ref p) (upd H1 p (.tup xs))
def tLst (t : TA) : TE := fun σ H Q => t σ H fun xs H1 => xs.length ≤ sizeLine ∧ ∀ p, H1 p = none → Q (.ref p) (upd H1 p (.lst xs))
theorem pe_tup {x1} (h : PA X es t) : PE X (.Tuple es x1 pos) (tTup t) := by
  intro pins s σ H Q I hq
  refine wpAny_Tuple_spliced (thn (h pos pins s σ H _ I hq) fun us s1 ⟨xs, H1, I1, r, z, q⟩ => ⟨by rw [← r.length]; exact z, ?_⟩)
  have hf : H1 s1.heap.objs.size = none := I1.hok.fresh (Nat.le_refl _)
  refine ⟨.ref s1.heap.objs.size, upd H1 s1.heap.objs.size (.tup xs), I1.laid (t' := s1.toks) (fun b u e => Heap.get?_push_of_some _ e) (Nat.le_refl _) ?_, rfl, q _ hf⟩
  exact ⟨z, us, r, ⟨_, Heap.get?_push_size _ rfl, rfl, _, rfl⟩⟩
theorem pe_lst (h : PA X es t) : PE X (.List es pos) (tLst t) := by
  intro pins s σ H Q I hq
  refine wpAny_List_spliced (thn (h pos pins s σ H _ I hq) fun us s1 ⟨xs, H1, I1, r, z, q⟩ => ⟨by rw [← r.length]; exact z, ?_⟩)
  have hf : H1 s1.heap.objs.size = none := I1.hok.fresh (Nat.le_refl _)
  refine ⟨.ref s1.heap.objs.size, upd H1 s1.heap.objs.size (.lst xs), I1.laid (t' := s1.toks) (fun b u e => Heap.get?_push_of_some _ e) (Nat.le_refl _) ?_, rfl, q _ hf⟩
  exact ⟨z, us, 0, r, Heap.get?_push_size _ rfl⟩
end
abbrev Sp := List V → Hp → VK → XK → Prop
abbrev CXT := List Env → Hp → Shared → XK → Value → Shared → Prop
structure Env0 (P : Program) (w : World) (K : PySem.W.Frag) (mg : Str → Option Value) (base : Heap) (A : Around) (outer : List Env) (s : Shared) (H : Hp) : Prop where
  frames : A.frames = some outer
  mod : Mod K mg base
  bs : ∀ b o, base.get? b = some o → s.heap.get? b = some o ∧ H b = none
  bsz : base.objs.size ≤ s.heap.objs.size
  funs : s.heap.FunFrames base outer
  frf : ∀ b ∈ frs outer, H b = none
  hok : HOk P w H s.heap
  bare : AllBare s.gens
def CE (outer : List Env) (P : Program) (w : World) (H : Hp) (s : Shared) (Q : VK) (u : Value) (s' : Shared) : Prop :=
  ∃ v H', s'.os = s.os ∧ AllBare s'.gens ∧ Un (frs outer) [] H H' s.heap s'.heap ∧ HOk P w H' s'.heap ∧ RelV v u ∧ Q v H'
def CR (CX : CXT) (outer : List Env) (P : Program) (w : World) (H : Hp) (s : Shared) (Q : VK) (E : XK) (r : Result) (s' : Shared) : Prop :=
  match r with
  | .ok (.ret u) => CE outer P w H s Q u s'
  | .ok _ => False
  | .error e => CX outer H s E e s'
structure FnOk (P : Program) (w : World) (K : PySem.W.Frag) (mg : Str → Option Value) (base : Heap) (CX : CXT) (k : Nat) (f : Addr) (fd : FuncData) (ps : List Str) (sp : Sp) : Prop where
  len : ∀ vs H Q E, sp vs H Q E → vs.length = ps.length
  run : ∀ (A : Around) (outer : List Env) (s : Shared) (H : Hp) (args : Args) (us : List Value) (vs : List V) (Q : VK) (E : XK), Room k A → Env0 P w K mg base A outer s H → BindsTo s fd args (ps.zip us) → Vals vs us → sp vs H Q E →
    codeAny (model P w) A (.call (.ref f) args) (CR CX outer P w H s Q E) s
theorem FnOk.mono {P : Program} {w : World} {K : PySem.W.Frag} {mg : Str → Option Value} {base : Heap} {CX : CXT} {j k : Nat} {f : Addr} {fd : FuncData} {ps : List Str} {sp : Sp} (F : FnOk P w K mg base CX j f fd ps sp) (h : j ≤ k) :
    FnOk P w K mg base CX k f fd ps sp := ⟨F.len, fun A outer s H args us vs Q E hr => F.run A outer s H args us vs Q E (hr.mono h)⟩
theorem Env0.in1 {P : Program} {w : World} {K : PySem.W.Frag} {mg : Str → Option Value} {base : Heap} {A : Around} {outer : List Env} {s : Shared} {H : Hp} (e : Env0 P w K mg base A outer s H) :
    Env0 P w K mg base A.in1 outer s H := ⟨e.frames, e.mod, e.bs, e.bsz, e.funs, e.frf, e.hok, e.bare⟩
section
variable {X : Cx} {pins : List (Addr × Obj)} {σ : St} {H : Hp} {s s' : Shared}
theorem Inv.env0 (I : Inv X pins σ H s) : Env0 X.prog X.w X.K X.mg X.base X.A X.stack s H :=
  ⟨I.ok.frames, I.ok.mod, I.bs, Nat.le_trans I.ok.bsz I.sz, I.stack, I.stkFree, I.hok, I.bare⟩
theorem Inv.after {Q : VK} {u : Value} (I : Inv X pins σ H s) (h : CE X.stack X.prog X.w H s Q u s') : EP X pins σ Q u s' := by
  obtain ⟨v, H', os, bare, un, hok, r, q⟩ := h
  obtain ⟨hh, g, d, t, os'⟩ := s'
  obtain rfl : os' = s.os := os
  exact ⟨v, H', I.call (h' := hh) (g' := g) (d' := d) (t' := t) (ch := []) un hok bare (fun b z => absurd z (by simp)), r, q⟩
end
def tCall (sp : Sp) (dvs : List V) (E : XK) (t : TA) : TE := fun σ H Q => t σ H fun vs H1 => sp (vs ++ dvs) H1 Q E
def Binds (K : PySem.W.Frag) (fd : FuncData) (ps : List Str) (ds : List Value) : Prop :=
  ∀ (s : Shared) (us : List Value), K.In s.heap → (us ++ ds).length = ps.length → BindsTo s fd ⟨us, []⟩ (ps.zip (us ++ ds))
theorem Binds.all {K : PySem.W.Frag} {fd : FuncData} {ps : List Str} (h : ∀ us : List Value, us.length = ps.length → bindArgs fd ⟨us, []⟩ = pure (ps.zip us)) : Binds K fd ps [] := fun s us _ hl => by
  rw [List.append_nil] at hl ⊢
  exact .of_eq (h us hl)
def Passes (CX : CXT) (X : Cx) (E : XK) : Prop := ∀ (pins : List (Addr × Obj)) (σ : St) (H : Hp) (s : Shared) (e : Value) (s' : Shared), Inv X pins σ H s → CX X.stack H s E e s' → X.xe e s'
section
variable {X : Cx} {CX : CXT} {k : Nat} {f C : Addr} {fd : FuncData} {ps : List Str} {sp : Sp} {dvs : List V} {ds : List Value} {E : XK} {x m : Str} {p pos apos : Pos} {e o : Expr} {es : List Expr} {ta : TE} {t : TA}
theorem run_fn {pins : List (Addr × Obj)} {σ : St} {H : Hp} {s : Shared} {Q : VK} {us : List Value} {vs : List V} (F : FnOk X.prog X.w X.K X.mg X.base CX k f fd ps sp) (hr : Room k X.A) (hb : Binds X.K fd ps ds) (hd : Vals dvs ds) (hx : Passes CX X E)
    (I : Inv X pins σ H s) (r : Vals vs us) (h : sp (vs ++ dvs) H Q E) : wpAny (model X.prog X.w) X.A (call (.ref f) us) (EP X pins σ Q) X.xe s := by
  have r2 : Vals (vs ++ dvs) (us ++ ds) := r.append hd
  have hl : (us ++ ds).length = ps.length := by rw [← r2.length]; exact F.len _ _ _ _ h
  refine wpAny_call (codeAny_mono (F.run X.A X.stack s H ⟨us, []⟩ (us ++ ds) (vs ++ dvs) Q E hr I.env0 (hb s us I.kIn hl) r2 h) fun r s' hq => ?_)
  cases r with
  | error e => exact hx pins σ H s e s' I hq
  | ok fl =>
    cases fl with
    | ret u => exact I.after hq
    | next => exact False.elim hq
    | brk => exact False.elim hq
    | cont => exact False.elim hq
theorem pe_call (F : FnOk X.prog X.w X.K X.mg X.base CX k f fd ps sp) (hr : Room k X.A) (hg : Gl X x) (hm : X.mg x = some (.ref f)) (hk : PySem.W.keepIn X.K (.ref f) = true) (hb : Binds X.K fd ps ds) (hd : Vals dvs ds) (hx : Passes CX X E)
    (ha : PA X (e :: es) t) (hdb : (x == ("__debug__" : Str)) = false := by decide) (he : starEach (e :: es) X.env = (false, eval e X.env) :: starEach es X.env := by rfl) (hpl : (backTo pos (starEach es X.env)).any (·.1) = false := by rfl) :
    PE X (.Call (.Name x p) (e :: es) [] pos) (tCall sp dvs E t) := by
  intro pins s σ H Q I h
  refine wpAny_Call_Name_kw (ld_glob I hg hm ?_ hdb)
  refine PySem.W.callWith_K (h₀ := X.base) I.ok.mod.kin hk (thn (ha pos pins s σ H _ I h) fun us s1 ⟨vs, H1, I1, r, q⟩ => ⟨I1.kIn, ?_⟩) he hpl
  exact run_fn F hr hb hd hx I1 r q
structure Mk (K : PySem.W.Frag) (C f : Addr) : Prop where
  makes : PySem.W.makesIn K C = true
  init : PySem.W.findIn K (.ref C) "__init__" = some (some (.ref f))
  fn : PySem.W.isFn K (.ref f) = true
  kp : PySem.W.keepIn K (.ref C) = true
end
section
variable {X : Cx} {CX : CXT} {k : Nat} {f C : Addr} {fd : FuncData} {ps ks : List Str} {sp : Sp} {E : XK} {x m : Str} {p pos apos kpos : Pos} {e o : Expr} {es : List Expr} {kws : List Keyword} {te ta : TE} {t tk : TA} {nm : Option Str}
variable {g : List Value → List Value → List Value} {gV : List V → List V → List V}
end
structure FnScope (N P : List Str) (sc : Scope) : Prop where
  kind : sc.kind = .function
  co : sc.isCoroutine = false
  gen : sc.isGenerator = false
  nd : N.Nodup
  pre : N.take P.length = P
  par : ∀ x ∈ P, sc.names.lookup x = some .local ∨ sc.names.lookup x = some .cell
  nofree : ∀ y ∈ sc.names, y.2 ≠ .free
theorem bindL_out {kindOf : Str → Option NameKind} {x : Str} : ∀ {binds : List (Str × Value)} {m : Str → Option Value}, (∀ v, (x, v) ∉ binds) → bindL kindOf binds m x = m x
  | [], _, _ => rfl
  | (n, v) :: r, m, h => by
    unfold bindL
    rw [bindL_out fun w hw => h w (List.mem_cons_of_mem _ hw)]
    split
    · have : x ≠ n := by rintro rfl; exact h v List.mem_cons_self
      simp [this]
    · rfl
theorem bindC_out {kindOf : Str → Option NameKind} {x : Str} : ∀ {binds : List (Str × Value)} {m : Str → Option Value}, (∀ v, (x, v) ∉ binds) → bindC kindOf binds m x = m x
  | [], _, _ => rfl
  | (n, v) :: r, m, h => by
    unfold bindC
    rw [bindC_out fun w hw => h w (List.mem_cons_of_mem _ hw)]
    split
    · rfl
    · have : x ≠ n := by rintro rfl; exact h v List.mem_cons_self
      simp [this]
theorem bindL_get {kindOf : Str → Option NameKind} {x : Str} {v : Value} : ∀ {P : List Str} {vs : List Value} {i : Nat} {m : Str → Option Value}, P.Nodup → P[i]? = some x → vs[i]? = some v → kindOf x = some .local →
    bindL kindOf (P.zip vs) m x = some v
  | [], _, _, _, _, h, _, _ => by simp at h
  | _ :: _, [], _, _, _, _, h, _ => by simp at h
  | p :: P, w :: vs, 0, m, nd, h1, h2, hk => by
    simp at h1 h2; subst h1; subst h2
    show bindL kindOf ((p, w) :: P.zip vs) m p = _
    unfold bindL
    rw [bindL_out fun v hv => (List.nodup_cons.mp nd).1 (List.of_mem_zip hv).1, if_pos hk]
    simp
  | p :: P, w :: vs, i + 1, m, nd, h1, h2, hk => by
    show bindL kindOf ((p, w) :: P.zip vs) m x = _
    unfold bindL
    exact bindL_get (i := i) (List.nodup_cons.mp nd).2 (by simpa using h1) (by simpa using h2) hk
theorem bindC_get {kindOf : Str → Option NameKind} {x : Str} {v : Value} : ∀ {P : List Str} {vs : List Value} {i : Nat} {m : Str → Option Value}, P.Nodup → P[i]? = some x → vs[i]? = some v → kindOf x ≠ some .local →
    bindC kindOf (P.zip vs) m x = some v
  | [], _, _, _, _, h, _, _ => by simp at h
  | _ :: _, [], _, _, _, _, h, _ => by simp at h
  | p :: P, w :: vs, 0, m, nd, h1, h2, hk => by
    simp at h1 h2; subst h1; subst h2
    show bindC kindOf ((p, w) :: P.zip vs) m p = _
    unfold bindC
    rw [bindC_out fun v hv => (List.nodup_cons.mp nd).1 (List.of_mem_zip hv).1, if_neg hk]
    simp
  | p :: P, w :: vs, i + 1, m, nd, h1, h2, hk => by
    show bindC kindOf ((p, w) :: P.zip vs) m x = _
    unfold bindC
    exact bindC_get (i := i) (List.nodup_cons.mp nd).2 (by simpa using h1) (by simpa using h2) hk
def start (N : List Str) (vs : List V) : St := vs.map some ++ List.replicate (N.length - vs.length) none
def cxOf (CX : CXT) (P : Program) (w : World) (K : PySem.W.Frag) (mg : Str → Option Value) (base : Heap) (N : List Str) (qual : Str) (scope : Scope) (f : Addr) (cd : Value) (A : Around) (outer : List Env) (s : Shared) (H : Hp) (E : XK) : Cx where
  prog := P
  w := w
  K := K
  mg := mg
  base := base
  A := A.deeper (envOfC qual scope s.heap.objs.size f cd)
  N := N
  s₀ := s
  H₀ := H
  env := envOfC qual scope s.heap.objs.size f cd
  outer := outer
  stack := envOfC qual scope s.heap.objs.size f cd :: outer
  ex := []
  calm := true
  fn := fun _ => true
  pn := []
  xe := fun e s' => wpAny (model P w) (A.deeper (envOfC qual scope s.heap.objs.size f cd)) («leaving» (envOfC qual scope s.heap.objs.size f cd) e) (fun _ s'' => CX outer H s E e s'') (fun e' s'' => CX outer H s E e' s'') s'
theorem cell_has {sc : Scope} {n : Nat} {x : Str} (h : sc.names.lookup x = some .cell) : ∃ c, (cellsFrom n sc.names []).lookup x = some c := by
  have q := PySem.W.cellsFrom_some sc.names n [] (.inl h)
  exact Option.isSome_iff_exists.mp q
theorem inv_start {CX : CXT} {P : Program} {w : World} {K : PySem.W.Frag} {mg : Str → Option Value} {base : Heap} {N ps : List Str} {qual : Str} {scope : Scope} {f : Addr} {cd : Value} {A : Around} {outer : List Env} {s s1 : Shared} {H : Hp} {E : XK} {us : List Value} {vs : List V}
    (S : FnScope N ps scope) (hd : A.handled = none) (e0 : Env0 P w K mg base A outer s H) (hl : vs.length = ps.length) (r : Vals vs us)
    (x : InCallC s s.heap.objs.size (bindL (envOfC qual scope s.heap.objs.size f cd).kindOf (ps.zip us) fun _ => none) (cellsFrom (s.heap.objs.size + 1) scope.names []) (bindC (envOfC qual scope s.heap.objs.size f cd).kindOf (ps.zip us) fun _ => none) s1) :
    Inv (cxOf CX P w K mg base N qual scope f cd A outer s H E) [] (start N vs) H s1 := by
  have hpl : ps.length ≤ N.length := by have := congrArg List.length S.pre; rw [List.length_take] at this; omega
  obtain ⟨h1, tk, rfl, hk⟩ := x.done
  have noA : ∀ b : Addr, b ∉ (cxOf CX P w K mg base N qual scope f cd A outer s H E).ex := fun b z => absurd (show b ∈ ([] : List Addr) from z) (by simp)
  refine ⟨⟨e0.mod, S.kind, rfl, rfl, Nat.le_refl _, fun y z c h1 h2 => ?_, fun y hy => ?_, fun y c _ h => ?_, fun _ => hd, Around.frames_deeper e0.frames, .inr ⟨rfl, rfl⟩, fun b z => absurd z (noA b), e0.bs, e0.bsz, fun b _ _ => noA b, fun b z => absurd z (noA b), e0.funs, e0.frf⟩,
    rfl, e0.bare, Un.kept hk, ⟨_, x.toInCall.ns, fun i y v h1 h2 h3 => ?_⟩, fun y c h => ⟨_, x.cell y c h⟩, e0.hok.fresh (Nat.le_refl _), fun y c h => ?_, fun p hp => absurd (show p ∈ ([] : List (Addr × Obj)) from hp) (by simp), e0.hok.kept hk, ?_⟩
  · exact name_of_addr x.apart (PySem.mem_of_lookup h1) (PySem.mem_of_lookup h2)
  · have hy : scope.names.lookup y = some .cell ∨ scope.names.lookup y = some .free := hy
    rcases hy with hy | hy
    · exact cell_has hy
    · exact absurd rfl (S.nofree _ (PySem.mem_of_lookup hy))
  · exact Nat.le_of_lt (x.above y c (PySem.mem_of_lookup h))
  · have hi : i < vs.length := by
      unfold start at h2
      by_cases hi : i < vs.length
      · exact hi
      · rw [List.getElem?_append_right (by simpa using hi)] at h2
        rw [List.getElem?_replicate] at h2
        split at h2 <;> cases h2
    have ha : vs[i]? = some v := by
      unfold start at h2
      rw [List.getElem?_append_left (by simpa using hi), List.getElem?_map] at h2
      cases e : vs[i]? with
      | none => rw [e] at h2; cases h2
      | some a => rw [e] at h2; cases h2; rfl
    obtain ⟨u, hu, rv⟩ := r.get ha
    have hp : ps[i]? = some y := by
      rw [← S.pre, List.getElem?_take_of_lt (by omega)]; exact h1
    have ndP : ps.Nodup := by rw [← S.pre]; exact S.nd.sublist (List.take_sublist _ _)
    refine ⟨u, rv, ?_⟩
    rcases S.par y (List.mem_of_getElem? hp) with k | k
    · exact .inl ⟨k, bindL_get ndP hp hu k⟩
    · obtain ⟨c, e⟩ := cell_has (n := s.heap.objs.size + 1) k
      refine .inr ⟨.inl k, c, e, ?_⟩
      have q := x.cell y c e
      rw [bindC_get ndP hp hu (by show scope.names.lookup y ≠ _; rw [k]; decide)] at q
      exact q
  · exact e0.hok.fresh (Nat.le_of_lt (x.above y c (PySem.mem_of_lookup h)))
  · unfold start
    show _ = N.length
    rw [List.length_append, List.length_map, List.length_replicate]
    omega
theorem fn_of {CX : CXT} {P : Program} {w : World} {K : PySem.W.Frag} {mg : Str → Option Value} {base : Heap} {k : Nat} {f : Addr} {name qual : Str} {params : Arguments} {body : List Stmt} {scope : Scope} {dV kV doc pm cdv ct oc : Value} {an od : Option Addr}
    {osl : Array (Option Value)} {N ps : List Str} {sp : Sp} (lk : K.lookup f = some ⟨oc, od, .func (PySem.W.fnOf name qual params body scope dV kV doc pm an cdv ct), osl⟩) (hcd : PySem.W.codeIn K cdv qual = true) (S : FnScope N ps scope)
    (len : ∀ vs H Q E, sp vs H Q E → vs.length = ps.length)
    (hbody : ∀ (A : Around) (outer : List Env) (s : Shared) (H : Hp) (vs : List V) (Q : VK) (E : XK), Room k (A.deeper (envOfC qual scope s.heap.objs.size f cdv)) → sp vs H Q E →
      ∃ t, PSs (cxOf CX P w K mg base N qual scope f cdv A outer s H E) body t ∧ t { nx := fun _ H' => Q .non H', rt := Q } (start N vs) H) :
    FnOk P w K mg base CX (k + 1) f (PySem.W.fnOf name qual params body scope dV kV doc pm an cdv ct) ps sp := by
  refine ⟨len, fun A outer s H args us vs Q E hr e0 hb r hsp => ?_⟩
  have hl := len _ _ _ _ hsp
  have KX : K.In s.heap := e0.mod.kin.keeps fun b o e => (e0.bs b o e).1
  have lim : s.heap.NoLimit := e0.mod.nolimit.keeps fun b o e => (e0.bs b o e).1
  have hkind : ∀ y ∈ ps.zip us, scope.names.lookup y.1 = some .local ∨ (scope.names.lookup y.1 = some .cell ∧ ((cellsFrom (s.heap.objs.size + 1) scope.names []).lookup y.1).isSome = true) := fun ⟨n, v⟩ hy => by
    rcases S.par n (List.of_mem_zip hy).1 with q | q
    · exact .inl q
    · exact .inr ⟨q, PySem.W.cellsFrom_some _ _ _ (.inl q)⟩
  refine codeAny_call_function hr.depth (KX _ _ lk) rfl S.co S.gen rfl (PySem.W.codeRec_of KX hcd) (hb _ _ _ _ ?_)
  refine wpAny_newFunctionEnv_cells S.kind hkind fun env he s1 x => ?_
  subst he
  refine ⟨lim.keeps x.toInCall.keep, codeAny_func ?_⟩
  obtain ⟨t, ht, hq⟩ := hbody A outer s H vs Q E (hr.deeper _) hsp
  have I : Inv (cxOf CX P w K mg base N qual scope f cdv A outer s H E) [] (start N vs) H s1 := inv_start S hr.hd e0 hl r x
  refine wpAny_mono (ht [] s1 (start N vs) H _ I hq) (fun fl s' hs => ?_) fun e s' hs => hs
  have fin : ∀ {σ' : St} {H' : Hp} {v : V} {u : Value}, Inv (cxOf CX P w K mg base N qual scope f cdv A outer s H E) [] σ' H' s' → RelV v u → Q v H' → CE outer P w H s Q u s' :=
    fun {σ' H' v u} J rv q => ⟨v, H', J.os, J.bare, J.base, J.hok, rv, q⟩
  cases fl with
  | ret u =>
    obtain ⟨v, σ', H', J, rv, q⟩ := hs
    exact fin J rv q
  | next =>
    obtain ⟨σ', H', J, q⟩ := hs
    exact fin (v := V.non) (u := Value.none) J rfl q
  | brk =>
    obtain ⟨_, _, _, q⟩ := hs
    exact False.elim q
  | cont =>
    obtain ⟨_, _, _, q⟩ := hs
    exact False.elim q
end L2
namespace L2
open PySem PySem.Spec PyProof.Rows
section
variable {X : Cx} {x : Str} {p pos : Pos} {e : Expr} {es : List Expr} {t : TA} {id T : String} {r : List V → Hp → VK → Prop}
def tCB (r : List V → Hp → VK → Prop) (t : TA) : TE := fun σ H Q => t σ H fun vs H1 => r vs H1 Q
theorem pe_callB (hc : CallR X (.builtin id) r) (hg : Gl X x) (hm : X.mg x = none) (hv : bootBuiltins x = some (.builtin id)) (ha : PA X (e :: es) t) (hn : x ≠ "__name__" := by decide) (hdb : (x == ("__debug__" : Str)) = false := by decide)
    (he : starEach (e :: es) X.env = (false, eval e X.env) :: starEach es X.env := by rfl) (hpl : (backTo pos (starEach es X.env)).any (·.1) = false := by rfl) : PE X (.Call (.Name x p) (e :: es) [] pos) (tCB r t) := by
  intro pins s σ H Q I h
  refine wpAny_Call_Name_kw (ld_blt I hg hm hv ?_ hn hdb)
  exact PyProof.Rows.callWith_builtin1 (thn (ha pos pins s σ H _ I h) fun us s1 ⟨vs, H1, I1, r1, q1⟩ => hc pins s1 σ H1 vs us Q I1 r1 q1) he hpl
theorem pe_callTy (hc : CallR X (.type T) r) (hg : Gl X x) (hm : X.mg x = none) (hv : bootBuiltins x = some (.type T)) (ha : PA X (e :: es) t) (hn : x ≠ "__name__" := by decide) (hdb : (x == ("__debug__" : Str)) = false := by decide)
    (he : starEach (e :: es) X.env = (false, eval e X.env) :: starEach es X.env := by rfl) (hpl : (backTo pos (starEach es X.env)).any (·.1) = false := by rfl) : PE X (.Call (.Name x p) (e :: es) [] pos) (tCB r t) := by
  intro pins s σ H Q I h
  refine wpAny_Call_Name_kw (ld_blt I hg hm hv ?_ hn hdb)
  exact PyProof.Rows.callWith_type1 (thn (ha pos pins s σ H _ I h) fun us s1 ⟨vs, H1, I1, r1, q1⟩ => hc pins s1 σ H1 vs us Q I1 r1 q1) he hpl
end
end L2
namespace HT
open PySem PyProof.Rows
section
open PySem.SeqAt
open PySem.AutoSeq1 (wpAny_loadPart')
open PySem.MeetsSeq PySem.MeetsSeq2 PySem.MeetsSeq3
end
section
variable {prog : Program} {w : World} {A : Around} {E : Value → Shared → Prop} {s : Shared}
theorem cat_tup {t b : Addr} {vs ws : List Value} {Q : Value → Shared → Prop} (ht : IsTup s.heap t vs.toArray) (hb : IsTup s.heap b ws.toArray) (hv : vs ≠ [])
    (h1 : ws = [] → Q (.ref t) s) (h2 : ws ≠ [] → Q (.ref s.heap.objs.size) { s with heap := s.heap.push { cls := .type "tuple", data := .seq (vs ++ ws).toArray } })
    (hsz : vs.length + ws.length ≤ sizeLine) : wpAny (model prog w) A (binaryOp .Add (.ref t) (.ref b)) Q E s := by
  obtain ⟨⟨cls, dd, data, sl⟩, ho, hc, n, hd⟩ := id ht
  obtain ⟨⟨cls2, dd2, data2, sl2⟩, ho2, hc2, n2, hd2⟩ := id hb
  simp only at hc hd hc2 hd2
  subst hc hd hc2 hd2
  have e : vs.toArray ++ ws.toArray = (vs ++ ws).toArray := by simp
  by_cases hw : ws = []
  · exact concat_meets ⟨_, ho, rfl⟩ ⟨_, ho2, rfl⟩ noFill_tuple_add seq_tuple_add PySem.F.slot_tuple_add PySem.F.entry_tuple_add (PySem.F.args_tuple_add_2 _ _)
      (tuple_addW1 t b vs.toArray ws.toArray n n2 dd dd2 sl sl2 (by simpa using hv) (by simp [hw])) ⟨ho, ho2, h1 hw⟩
  · refine concat_meets ⟨_, ho, rfl⟩ ⟨_, ho2, rfl⟩ noFill_tuple_add seq_tuple_add PySem.F.slot_tuple_add PySem.F.entry_tuple_add (PySem.F.args_tuple_add_2 _ _)
      (tuple_addW2 t b vs.toArray ws.toArray n n2 dd dd2 sl sl2 (by simpa using hv) (by simpa using hw) (by rw [List.size_toArray, List.size_toArray]; exact hsz)) ⟨ho, ho2, ?_⟩
    rw [e]
    exact h2 hw
def sIx (n d : Nat) : Option Int → Nat
  | none => d
  | some v => if v < 0 then (v + (n : Int)).toNat else min v.toNat n
theorem sIx_nat (n d k : Nat) : sIx n d (some (k : Int)) = min k n := by
  show (if (k : Int) < 0 then ((k : Int) + (n : Int)).toNat else min (k : Int).toNat n) = min k n
  rw [if_neg (by omega), Int.toNat_natCast]
end
end HT
namespace L2
open PySem PySem.Spec PyProof.Rows
abbrev TO := St → Hp → (Option Int → Hp → Prop) → Prop
def PO (X : Cx) (e : Option Expr) (t : TO) : Prop :=
  ∀ (pins : List (Addr × Obj)) (s : Shared) (σ : St) (H : Hp) (Q : Option Int → Hp → Prop), Inv X pins σ H s → t σ H Q →
    wpAny (model X.prog X.w) X.A (evalPart e X.env) (fun u s' => ∃ o H', Inv X pins σ H' s' ∧ IsPart u o ∧ Q o H') X.xe s
def tNoPart : TO := fun _ H Q => Q none H
def tPart (t : TE) : TO := fun σ H Q => t σ H fun x H1 => ∃ i, x = .int i ∧ Q (some i) H1
theorem intsAre_of {ns : List Int} : ∀ {us : List Value}, Vals (ns.map V.int) us → IntsAre us ns := by
  induction ns with
  | nil => intro us r; rw [List.map_nil] at r; cases r; exact .nil
  | cons n ns ih =>
    intro us r
    rw [List.map_cons] at r
    cases r with
    | cons r1 r2 =>
      obtain ⟨t, e⟩ := r1
      subst e
      exact .cons n t (ih r2)
section
variable {X : Cx} {e : Expr} {te : TE} {lo hi : Option Expr} {tl th : TO} {pos p2 : Pos}
theorem po_none : PO X none tNoPart := by
  intro pins s σ H Q I h
  rw [evalPart_none]
  exact wpAny_pure ⟨none, H, I, .none, h⟩
theorem po_some (h : PE X e te) : PO X (some e) (tPart te) := by
  intro pins s σ H Q I hw
  rw [evalPart_some]
  refine thn (h pins s σ H _ I hw) fun u s1 ⟨x, H1, I1, r1, q1⟩ => ?_
  obtain ⟨i, rfl, q⟩ := q1
  obtain ⟨t, rfl⟩ := r1
  exact ⟨some i, H1, I1, .int i t, q⟩
def SlR (X : Cx) (r : V → Option Int → Option Int → Hp → VK → Prop) : Prop :=
  ∀ (pins : List (Addr × Obj)) (s : Shared) (σ : St) (H : Hp) (x : V) (v vl vu : Value) (lo hi : Option Int) (sl : Addr) (Q : VK), Inv X pins σ H s → RelV x v → s.heap.IsSliceOf sl vl vu .none → IsPart vl lo → IsPart vu hi → r x lo hi H Q →
    ∃ T id, typeLookup (.type T) "__getitem__" = pure (some (.builtin id)) ∧ s.TypeIs v T ∧ wpAny (model X.prog X.w) X.A (getItem v (.ref sl)) (EP X pins σ Q) X.xe s
def tSl (r : V → Option Int → Option Int → Hp → VK → Prop) (te : TE) (tl th : TO) : TE := fun σ H Q => te σ H fun x H1 => tl σ H1 fun l H2 => th σ H2 fun u H3 => r x l u H3 Q
theorem pe_slice {r : V → Option Int → Option Int → Hp → VK → Prop} (hr : SlR X r) (he : PE X e te) (hl : PO X lo tl) (hu : PO X hi th) : PE X (.Subscript e (.Slice lo hi none p2) pos) (tSl r te tl th) := by
  intro pins s σ H Q I h
  refine Subscript_ (thn (he pins s σ H _ I h) fun v s1 ⟨x, H1, I1, r1, q1⟩ => ?_)
  refine wpAny_Slice (thn (hl pins s1 σ H1 _ I1 q1) fun vl s2 ⟨l, H2, I2, pl, q2⟩ => thn (hu pins s2 σ H2 _ I2 q2) fun vu s3 ⟨u, H3, I3, pu, q3⟩ => ?_)
  rw [evalPart_none]
  refine wpAny_pure ?_
  have I4 : Inv X pins σ H3 { s3 with heap := s3.heap.push { cls := .type "slice", data := .fields #[vl, vu, .none] } } := I3.kept (t' := s3.toks) fun b ob q => Heap.get?_push_of_some _ q
  obtain ⟨T, id, hT, ht, hg⟩ := hr pins { s3 with heap := s3.heap.push { cls := .type "slice", data := .fields #[vl, vu, .none] } } σ H3 x v vl vu l u s3.heap.objs.size Q I4 r1 (Heap.IsSliceOf.new ..) pl pu q3
  show wpAny (model X.prog X.w) X.A (subscriptTail e (.Slice lo hi none p2) v (.ref s3.heap.objs.size)) (EP X pins σ Q) X.xe { s3 with heap := s3.heap.push { cls := .type "slice", data := .fields #[vl, vu, .none] } }
  exact tail_any (ops := [.ref s3.heap.objs.size, v]) ht hT hg (by with_unfolding_all rfl)
def cutV (xs : List V) (lo hi : Option Int) : List V := (xs.drop (HT.sIx xs.length 0 lo)).take (HT.sIx xs.length xs.length hi - HT.sIx xs.length 0 lo)
theorem cutV_length (xs : List V) (lo hi : Option Int) : (cutV xs lo hi).length ≤ xs.length := by
  unfold cutV
  rw [List.length_take, List.length_drop]
  omega
theorem Vals.nil_iff {xs : List V} {us : List Value} (r : Vals xs us) : us = [] ↔ xs = [] := by
  cases r with
  | nil => simp
  | cons _ _ => simp
end
end L2
namespace L2
open PySem PySem.Spec PyProof.Rows
def PlainIx (b : Expr) : Prop := ∀ o i, subscripted b false o i = operate [o, i] (getItem o i)
def IxR (X : Cx) (r : R2) : Prop :=
  ∀ (value slice : Expr) (pins : List (Addr × Obj)) (s : Shared) (σ : St) (H : Hp) (x y : V) (v u : Value) (Q : VK), Inv X pins σ H s → RelV x v → RelV y u → r x y H Q →
    subscripted slice false v u = operate [v, u] (getItem v u) → wpAny (model X.prog X.w) X.A (subscriptTail value slice v u) (EP X pins σ Q) X.xe s
def MtR (X : Cx) (id : String) (r : V → List V → Hp → VK → Prop) : Prop :=
  ∀ (pins : List (Addr × Obj)) (s : Shared) (σ : St) (H : Hp) (x : V) (xs : List V) (v : Value) (us : List Value) (Q : VK), Inv X pins σ H s → RelV x v → Vals xs us → r x xs H Q →
    wpAny (model X.prog X.w) X.A (call (.builtin id) (v :: us)) (EP X pins σ Q) X.xe s
section
variable {X : Cx} {a b : Expr} {ta tb : TE} {pos : Pos}
theorem pe_ix {r : R2} (hr : IxR X r) (ha : PE X a ta) (hb : PE X b tb) (hs : PlainIx b) : PE X (.Subscript a b pos) (tOp r ta tb) := by
  intro pins s σ H Q I h
  exact Subscript_ (binT ha hb I h fun v u s2 x y H2 I2 rx ry q => hr a b pins s2 σ H2 x y v u Q I2 rx ry q (hs _ _))
theorem Inv.lst {pins : List (Addr × Obj)} {σ : St} {H : Hp} {s : Shared} {p : Addr} {xs : List V} (I : Inv X pins σ H s) (h : H p = some (.lst xs)) :
    ∃ (its : List Value) (n : Nat), Vals xs its ∧ s.heap.get? p = some { cls := .type "list", data := .seq its.toArray n } ∧ xs.length ≤ sizeLine := by
  obtain ⟨z, its, n, r, e⟩ := I.hok p _ h
  exact ⟨its, n, r, e, z⟩
theorem slice_bounds (lo hi : Option Int) (n : Nat) : (sliceBounds lo hi none n).1 = ((HT.sIx n 0 lo : Nat) : Int) ∧ (sliceBounds lo hi none n).2.1 = ((HT.sIx n n hi : Nat) : Int) ∧ (sliceBounds lo hi none n).2.2 = 1 := by
  refine ⟨?_, ?_, rfl⟩
  · cases lo with
    | none => simp [sliceBounds, HT.sIx]
    | some i =>
      simp only [sliceBounds, HT.sIx, Option.getD_none, show (1 : Int) > 0 by decide, if_true]
      by_cases h : i < 0
      · simp only [h, if_true] <;> omega
      · simp only [h, if_false] <;> omega
  · cases hi with
    | none => simp [sliceBounds, HT.sIx]
    | some i =>
      simp only [sliceBounds, HT.sIx, Option.getD_none, show (1 : Int) > 0 by decide, if_true]
      by_cases h : i < 0
      · simp only [h, if_true] <;> omega
      · simp only [h, if_false] <;> omega
theorem slicePick_cut (its : List Value) (lo hi : Option Int) : slicePick its.toArray lo hi none = ((its.drop (HT.sIx its.length 0 lo)).take (HT.sIx its.length its.length hi - HT.sIx its.length 0 lo)).toArray := by
  obtain ⟨h1, h2, h3⟩ := slice_bounds lo hi its.toArray.size
  unfold slicePick
  rw [h1, h2, h3]
  simp only [sliceRange_one, pick_run, List.size_toArray] <;> rfl
def rSlL (K : PySem.W.Frag) : V → Option Int → Option Int → Hp → VK → Prop := fun x lo hi H Q => ∃ a xs, x = .ref a ∧ SqL K H a xs ∧ ∀ p, H p = none → Q (.ref p) (upd H p (.lst (cutV xs lo hi)))
theorem sl_list : SlR X (rSlL X.K) := by
  intro pins s σ H x v vl vu lo hi sl Q I rx hs pl pu h
  obtain ⟨a, xs, rfl, hx, q⟩ := h
  cases rx
  obtain ⟨its, r, ht, hz⟩ := I.list hx
  have hlen := r.length
  refine ⟨"list", _, slot_list_getitem.lookup, ht.isList.typeIs, ?_⟩
  refine wpAny_getItem_list_slice ht.isList hs pl pu .none (by simp) ?_ (by rw [List.size_toArray] <;> omega)
  rw [slicePick_cut, ← hlen]
  refine ⟨.ref s.heap.objs.size, _, I.laid (t' := s.toks) (o := .lst (cutV xs lo hi)) (fun b ob q => Heap.get?_push_of_some _ q) (Nat.le_refl _) ?_, rfl, q _ (I.hok.fresh (Nat.le_refl _))⟩
  exact ⟨Nat.le_trans (cutV_length xs lo hi) hz, _, 0, (r.drop (HT.sIx xs.length 0 lo)).take (HT.sIx xs.length xs.length hi - HT.sIx xs.length 0 lo), Heap.get?_push_size _ rfl⟩
def flatV : V → Bool
  | .non => true
  | .bl _ => true
  | .int _ => true
  | .str _ => true
  | _ => false
def eqV : V → V → Bool
  | .non, .non => true
  | .bl a, .bl b => a == b
  | .bl a, .int b => (if a then 1 else 0) == b
  | .int a, .bl b => a == (if b then 1 else 0)
  | .int a, .int b => a == b
  | .str a, .str b => a == b
  | _, _ => false
theorem eqAt_V {A : Around} {s : Shared} {y x : V} {u v : Value} (ry : RelV y u) (rx : RelV x v) (fy : flatV y = true) (fx : flatV x = true) : SeqAt.EqAt A s u v (eqV y x) := by
  cases y with
  | non =>
    cases ry
    cases x with
    | non => cases rx; exact SeqAt.EqAt.same _
    | bl b => cases rx; exact SeqAt.EqAt.none_bool b
    | int b => obtain ⟨t, rfl⟩ := rx; exact SeqAt.EqAt.none_int b t
    | str b => obtain ⟨t, rfl⟩ := rx; exact SeqAt.EqAt.none_str b t
    | _ => exact absurd (show false = true from fx) Bool.false_ne_true
  | bl a =>
    cases ry
    cases x with
    | non => cases rx; exact SeqAt.EqAt.bool_none a
    | bl b => cases rx; exact SeqAt.EqAt.bool_bool a b
    | int b => obtain ⟨t, rfl⟩ := rx; exact SeqAt.EqAt.bool_int a b t
    | str b => obtain ⟨t, rfl⟩ := rx; exact SeqAt.EqAt.bool_str a b t
    | _ => exact absurd (show false = true from fx) Bool.false_ne_true
  | int a =>
    obtain ⟨t', rfl⟩ := ry
    cases x with
    | non => cases rx; exact SeqAt.EqAt.int_none a t'
    | bl b => cases rx; exact SeqAt.EqAt.int_bool a t' b
    | int b => obtain ⟨t, rfl⟩ := rx; exact SeqAt.EqAt.int_int a t' b t
    | str b => obtain ⟨t, rfl⟩ := rx; exact SeqAt.EqAt.int_str a t' b t
    | _ => exact absurd (show false = true from fx) Bool.false_ne_true
  | str a =>
    obtain ⟨t', rfl⟩ := ry
    cases x with
    | non => cases rx; exact SeqAt.EqAt.str_none a t'
    | bl b => cases rx; exact SeqAt.EqAt.str_bool a t' b
    | int b => obtain ⟨t, rfl⟩ := rx; exact SeqAt.EqAt.str_int a t' b t
    | str b => obtain ⟨t, rfl⟩ := rx; exact SeqAt.EqAt.str_str a t' b t
    | _ => exact absurd (show false = true from fx) Bool.false_ne_true
  | _ => exact absurd (show false = true from fy) Bool.false_ne_true
def eqU (x : V) (u : Value) : Bool := match u with
  | .none => eqV .non x
  | .bool b => eqV (.bl b) x
  | .int i _ => eqV (.int i) x
  | .str z _ => eqV (.str z) x
  | _ => false
theorem eqU_of {x y : V} {u : Value} (r : RelV y u) (f : flatV y = true) : eqU x u = eqV y x := by
  cases y with
  | non => cases r; rfl
  | bl b => cases r; rfl
  | int i => obtain ⟨t, rfl⟩ := r; rfl
  | str z => obtain ⟨t, rfl⟩ := r; rfl
  | _ => exact absurd (show false = true from f) Bool.false_ne_true
theorem any_eqU {x : V} : ∀ {xs : List V} {us : List Value}, Vals xs us → xs.all flatV = true → us.any (eqU x) = xs.any fun y => eqV y x
  | _, _, .nil, _ => rfl
  | y :: xs, u :: us, .cons r t, f => by
    rw [List.all_cons, Bool.and_eq_true] at f
    rw [List.any_cons, List.any_cons, eqU_of r f.1, any_eqU t f.2]
theorem mem_eqAt {A : Around} {s : Shared} {x : V} {v : Value} (rx : RelV x v) (fx : flatV x = true) : ∀ {xs : List V} {us : List Value}, Vals xs us → xs.all flatV = true → ∀ u ∈ us, SeqAt.EqAt A s u v (eqU x u)
  | _, _, .nil, _ => fun u hu => by cases hu
  | y :: xs, u :: us, .cons r t, f => fun u' hu => by
    rw [List.all_cons, Bool.and_eq_true] at f
    rcases List.mem_cons.mp hu with rfl | hu
    · rw [eqU_of r f.1]; exact eqAt_V r rx f.1 fx
    · exact mem_eqAt rx fx t f.2 u' hu
def inV (x : V) (xs : List V) : Bool := xs.any fun y => eqV y x
def rIn (K : PySem.W.Frag) (neg : Bool) : R2 := fun x y H Q => ∃ p xs, y = .ref p ∧ (SqL K H p xs ∨ SqT K H p xs) ∧ flatV x = true ∧ xs.all flatV = true ∧ Q (.bl (if neg then !inV x xs else inV x xs)) H
theorem op_in_seq : OpR X (compareOp .In) (rIn X.K false) := by
  intro pins s σ H x y v u Q I rx ry h
  obtain ⟨p, xs, rfl, hq, fx, fs, q⟩ := h
  cases ry
  rcases hq with hq | hq
  · obtain ⟨its, r, pl, hz⟩ := I.list hq
    refine SeqAt.in_listAt (eqU x) pl.isList (fun w hw => mem_eqAt rx fx r fs w (by simpa using hw)) ⟨.bl _, H, I, rfl, ?_⟩
    rw [show its.toArray.any (eqU x) = its.any (eqU x) by simp, any_eqU r fs]
    exact q
  · obtain ⟨its, r, pl, hz⟩ := I.tuple hq
    refine SeqAt.in_tupleAt (eqU x) pl (fun w hw => mem_eqAt rx fx r fs w (by simpa using hw)) ⟨.bl _, H, I, rfl, ?_⟩
    rw [show its.toArray.any (eqU x) = its.any (eqU x) by simp, any_eqU r fs]
    exact q
theorem call_len_seq : CallR X (.builtin "len") (fun xs H Q => ∃ p ys, xs = [.ref p] ∧ (SqL X.K H p ys ∨ SqT X.K H p ys) ∧ Q (.int ys.length) H) := by
  intro pins s σ H xs us Q I r h
  obtain ⟨p, ys, rfl, hq, q⟩ := h
  obtain ⟨u, rfl, rx⟩ := vals1 r
  cases rx
  have hn := line63
  rcases hq with hq | hq
  · obtain ⟨its, r', pl, hz⟩ := I.list hq
    have hlen := r'.length
    exact Calls.call_len_list pl.isList (by simp only [List.size_toArray] <;> omega) ⟨.int ys.length, H, I.tok _, ⟨s.toks + 1, by rw [List.size_toArray, hlen]⟩, q⟩
  · obtain ⟨its, r', pl, hz⟩ := I.tuple hq
    have hlen := r'.length
    exact len_tuple pl (by simp only [List.size_toArray] <;> omega) ⟨.int ys.length, H, I.tok _, ⟨s.toks + 1, by rw [List.size_toArray, hlen]⟩, q⟩
theorem call_list_of : CallR X (.type "list") (fun xs H Q => ∃ p ys, xs = [.ref p] ∧ (SqL X.K H p ys ∨ SqT X.K H p ys) ∧ ∀ l, H l = none → Q (.ref l) (upd H l (.lst ys))) := by
  intro pins s σ H xs us Q I r h
  obtain ⟨p, ys, rfl, hq, q⟩ := h
  obtain ⟨u, rfl, rx⟩ := vals1 r
  cases rx
  have fin : ∀ (its : List Value), Vals ys its → ys.length ≤ sizeLine → ∀ (h' : Heap) (c' : Nat), (∀ b o', s.heap.get? b = some o' → h'.get? b = some o') →
      h'.get? s.heap.objs.size = some { cls := .type "list", dict := none, data := .seq its.toArray c', slots := #[] } → EP X pins σ Q (.ref s.heap.objs.size) { s with heap := h' } := fun its r' hz h' c' kp e =>
    ⟨.ref s.heap.objs.size, _, I.laid (t' := s.toks) kp (Nat.le_refl _) (show ObjOk X.prog X.w _ h' _ (.lst ys) from ⟨hz, its, c', r', e⟩), rfl, q _ (I.hok.fresh (Nat.le_refl _))⟩
  rcases hq with hq | hq
  · obtain ⟨its, r', pl, hz⟩ := I.list hq
    have hlen := r'.length
    obtain ⟨o, ho, hc, n, hd⟩ := pl.isList
    exact call_list_seq p (.inl rfl) ho hc hd (fun h' c' kp e => fin its r' hz h' c' kp e) (by simp only [List.size_toArray] <;> omega)
  · obtain ⟨its, r', pl, hz⟩ := I.tuple hq
    have hlen := r'.length
    obtain ⟨o, ho, hc, n, hd⟩ := pl
    exact call_list_seq p (.inr rfl) ho hc hd (fun h' c' kp e => fin its r' hz h' c' kp e) (by simp only [List.size_toArray] <;> omega)
def tyV (K : PySem.W.Frag) (T : String) (x : V) (H : Hp) : Prop := match x with
  | .str _ => T = "str"
  | .int _ => T = "int"
  | .ref p => (T = "list" ∧ ∃ xs, SqL K H p xs) ∨ (T = "tuple" ∧ ∃ o, K.lookup p = some o ∧ o.cls = .type "tuple" ∧ o.dict = none) ∨
      (T = "dict" ∧ ((∃ kvs, H p = some (.dK kvs)) ∨ ∃ kvs, H p = some (.dT kvs))) ∨ (T = "set" ∧ ∃ S n, H p = some (.set S n))
  | _ => False
theorem tyV_is {pins : List (Addr × Obj)} {σ : St} {H : Hp} {s : Shared} {T : String} {x : V} {v : Value} (I : Inv X pins σ H s) (r : RelV x v) (ty : tyV X.K T x H) :
    s.TypeIs v T ∧ ∀ a, v = .ref a → ∃ ob, s.heap.get? a = some ob ∧ ob.dict = none := by
  cases x with
  | str z =>
    obtain ⟨t, rfl⟩ := r
    cases (show T = "str" from ty)
    exact ⟨typeIs_str s z t, fun _ e => nomatch e⟩
  | int i =>
    obtain ⟨t, rfl⟩ := r
    cases (show T = "int" from ty)
    exact ⟨typeIs_int s i t, fun _ e => nomatch e⟩
  | ref p =>
    cases r
    rcases ty with ⟨rfl, xs, hq⟩ | ⟨rfl, o, hk, hc, hd⟩ | ⟨rfl, hk⟩ | ⟨rfl, S, n, hk⟩
    · obtain ⟨its, _, pl, _⟩ := I.list hq
      refine ⟨pl.isList.typeIs, fun a e => ?_⟩
      cases e
      obtain ⟨o, n, e, c, hd, _⟩ := pl
      exact ⟨o, e, hd⟩
    · refine ⟨⟨o, I.kIn p o hk, hc⟩, fun a e => ?_⟩
      cases e
      exact ⟨o, I.kIn _ o hk, hd⟩
    · have z : ∃ o, s.heap.get? p = some o ∧ o.ExactDict := by
        rcases hk with ⟨kvs, hk⟩ | ⟨kvs, hk⟩
        · obtain ⟨_, _, _, _, o, _, _, e, ex, _⟩ := I.hok p _ hk
          exact ⟨o, e, ex⟩
        · obtain ⟨_, _, _, _, o, _, _, e, ex, _⟩ := I.hok p _ hk
          exact ⟨o, e, ex⟩
      obtain ⟨o, e, ex⟩ := z
      refine ⟨⟨o, e, ex.1⟩, fun a e2 => ?_⟩
      cases e2
      exact ⟨o, e, ex.2.1⟩
    · obtain ⟨o, _, _, _, e, ex, _⟩ := I.hok p _ hk
      refine ⟨⟨o, e, ex.1⟩, fun a e2 => ?_⟩
      cases e2
      exact ⟨o, e, ex.2.1⟩
  | _ => exact False.elim ty
def tBM (K : PySem.W.Frag) (T : String) (r : V → List V → Hp → VK → Prop) (to : TE) (t : TA) : TE := fun σ H Q => to σ H fun x H1 => tyV K T x H1 ∧ t σ H1 fun xs H2 => r x xs H2 Q
variable {o e : Expr} {es : List Expr} {to : TE} {t : TA} {name : Str} {apos cpos : Pos} {T id : String} {r : V → List V → Hp → VK → Prop}
theorem pe_bm (pa : PlainAttrs T) (slot : Slot T name id) (hty : typeOf (.builtin id) = pure (.type "method_descriptor")) (hm : MtR X id r) (ho : PE X o to) (ha : PA X (e :: es) t)
    (hbase : attributeBase o name X.env (eval o X.env) = eval o X.env := by rfl)
    (hfew : ((backTo cpos (starEach (e :: es) X.env)).all (fun x => !x.1) && (backToKw cpos (keywordEach [] X.env)).all (fun x => x.1.isSome)
      && decide ((e :: es).length + ([] : List Keyword).length + (if ([] : List Keyword).isEmpty then 0 else 1) < 30)) = true := by rfl)
    (hline : (apos.endLine == cpos.line) = true := by rfl) (hs : starEach (e :: es) X.env = (false, eval e X.env) :: starEach es X.env := by rfl) (hplain : (backTo cpos (starEach es X.env)).any (·.1) = false := by rfl) :
    PE X (.Call (.Attribute o name apos) (e :: es) [] cpos) (tBM X.K T r to t) := by
  intro pins s σ H Q I h
  refine wpAny_Call_method_late hbase hfew hline rfl (thn (ho pins s σ H _ I h) fun v s1 ⟨x, H1, I1, r1, ty, q1⟩ => ?_)
  obtain ⟨h1, h2⟩ := tyV_is I1 r1 ty
  refine ⟨T, id, pa, slot, hty, h1, h2, ?_⟩
  have hA := ha cpos pins s1 σ H1 _ I1 q1
  rw [hs] at hA ⊢
  refine Calls.callWith_builtin (by show (false || (backTo cpos (starEach es X.env)).any (·.1)) = false; rw [hplain] <;> rfl) (Calls.evalArgs_plain ?_)
  exact thn hA fun us s2 ⟨vs, H2, I2, r2, q2⟩ => hm pins s2 σ H2 x vs v us Q I2 r1 r2 q2
end
end L2
namespace L2
open PySem PySem.Spec PyProof.Rows
def MtM (X : Cx) (id : String) (r : V → List V → Hp → VK → Prop) : Prop :=
  ∀ (pins : List (Addr × Obj)) (s : Shared) (σ : St) (H : Hp) (x : V) (xs : List V) (v : Value) (us : List Value) (Q : VK), Inv X pins σ H s → RelV x v → Vals xs us → r x xs H Q →
    wpAny (model X.prog X.w) X.A (call (.builtin id) (v :: us)) (EP X pins σ Q) X.xe s
theorem Vals.one : ∀ {x : V} {us : List Value}, Vals [x] us → ∃ u, us = [u] ∧ RelV x u
  | _, _, .cons r .nil => ⟨_, rfl, r⟩
theorem Vals.two : ∀ {x y : V} {us : List Value}, Vals [x, y] us → ∃ u v, us = [u, v] ∧ RelV x u ∧ RelV y v
  | _, _, _, .cons r (.cons q .nil) => ⟨_, _, rfl, r, q⟩
theorem Vals.zero : ∀ {us : List Value}, Vals [] us → us = []
  | _, .nil => rfl
section
variable {X : Cx} {pins : List (Addr × Obj)} {σ : St} {H : Hp} {s : Shared} {l b : Addr} {xs ys zs : List V}
theorem Inv.lset {its its' : List Value} {n : Nat} {f : Array Value → Array Value} {t' : Nat} (I : Inv X pins σ H s) (hH : H l = some (.lst xs))
    (e : s.heap.get? l = some { cls := .type "list", data := .seq its.toArray n }) (hf : f its.toArray = its'.toArray) (hv : Vals ys its') (hz : ys.length ≤ sizeLine) :
    Inv X pins σ (upd H l (.lst ys)) { s with heap := s.heap.update l (Obj.mapSeq f), toks := t' } := by
  have q := PySem.IsL.update e f
  rw [hf] at q
  refine I.write (x := l) (e := l) (by rw [hH]; exact trivial) (.inl rfl) (fun b' u hb hu => (Heap.get?_update_other s.heap (Obj.mapSeq f) (Ne.symm hb)).trans hu) ⟨_, q⟩ ?_
  exact ⟨hz, its', _, hv, q⟩
theorem Inv.lnew {its : List Value} {t' : Nat} (I : Inv X pins σ H s) (hv : Vals ys its) (hz : ys.length ≤ sizeLine) :
    Inv X pins σ (upd H s.heap.objs.size (.lst ys)) { s with heap := s.heap.push { cls := .type "list", data := .seq its.toArray }, toks := t' } :=
  I.laid (fun _ _ q => Heap.get?_push_of_some _ q) (Nat.le_refl _) ⟨hz, its, 0, hv, Heap.get?_push_size _ rfl⟩
theorem Inv.fresh (I : Inv X pins σ H s) : H s.heap.objs.size = none := I.hok.fresh (Nat.le_refl _)
theorem Inv.lstM (I : Inv X pins σ H s) (hH : H l = some (.lst xs)) : xs.length ≤ sizeLine ∧ ∃ (its : List Value) (n : Nat), Vals xs its ∧ xs.length = its.length ∧ s.heap.get? l = some { cls := .type "list", data := .seq its.toArray n } := by
  obtain ⟨z, its, n, r, e⟩ := I.hok l _ hH
  exact ⟨z, its, n, r, r.length, e⟩
end
section
variable {X : Cx}
def rAppend : V → List V → Hp → VK → Prop := fun x vs H Q => ∃ l xs y, x = .ref l ∧ vs = [y] ∧ H l = some (.lst xs) ∧ xs.length < sizeLine ∧ Q .non (upd H l (.lst (xs ++ [y])))
theorem mt_append : MtM X "list.append" rAppend := by
  intro pins s σ H x vs v us Q I rx rv h
  obtain ⟨l, xs, y, rfl, rfl, hH, hz, q⟩ := h
  cases rx
  obtain ⟨u, rfl, ru⟩ := rv.one
  obtain ⟨z, its, n, r, hl, e⟩ := I.lstM hH
  refine call_meets F.slot_list_append ⟨_, e, rfl⟩ F.entry_list_append (F.args_list_append_2 _ _) (PySem.list_append l its.toArray n u (by rw [List.size_toArray]; omega)) ⟨e, ?_⟩
  refine ⟨.non, _, I.lset (its' := its ++ [u]) hH e (by simp) (r.append (.cons ru .nil)) ?_, rfl, q⟩
  rw [List.length_append, List.length_singleton]
  omega
def rCat : R2 := fun x y H Q => ∃ l b xs zs, x = .ref l ∧ y = .ref b ∧ H l = some (.lst xs) ∧ H b = some (.lst zs) ∧ xs.length + zs.length ≤ sizeLine ∧ ∀ p, H p = none → Q (.ref p) (upd H p (.lst (xs ++ zs)))
theorem op_cat : OpR X (binaryOp .Add) rCat := by
  intro pins s σ H x y v u Q I rx ry h
  obtain ⟨l, b, xs, zs, rfl, rfl, hH, hB, hz, q⟩ := h
  cases rx
  cases ry
  obtain ⟨z, its, n, r, hl, e⟩ := I.lstM hH
  obtain ⟨z2, its2, n2, r2, hl2, e2⟩ := I.lstM hB
  refine PySem.P.add_list e e2 ?_ (by rw [List.size_toArray, List.size_toArray]; omega)
  have ea : its.toArray ++ its2.toArray = (its ++ its2).toArray := by simp
  rw [ea]
  exact ⟨.ref _, _, I.lnew (t' := s.toks) (r.append r2) (by rw [List.length_append]; omega), rfl, q _ I.fresh⟩
end
section
variable {prog : Program} {w : World} {A : Around} {E : Value → Shared → Prop} {s : Shared}
end
section
variable {X : Cx}
end
end L2
namespace Att
open PySem PySem.W PySem.Calls PyProof.Rows
theorem ints_of_wellAll {P : Params} {h : Heap} : ∀ (ns : List Int) (vs : List Value), WellAll P h vs (ns.map WData.int) → IntsAre vs ns := by
  intro ns
  induction ns with
  | nil =>
    intro vs w
    rw [List.map_nil] at w
    cases w
    exact .nil
  | cons n ns ih =>
    intro vs w
    rw [List.map_cons] at w
    cases w with
    | cons a b =>
      cases a
      exact .cons _ _ (ih _ b)
theorem script_of {l : OpenLaw} {n : Nat} (hn : l.most = some n) {P : Params} {h : Heap} {args : List WData} {vals : List Value}
    (hpre : l.row.toRowW.claim.pre args = true) (hwl : WellAll P h vals args) :
    ∃ a vs ns, vals = [Value.ref a] ∧ args = [WData.list (ns.map WData.int)] ∧ h.get? a = some { cls := .type "list", data := .seq vs.toArray } ∧ IntsAre vs ns ∧ ns.length ≤ n := by
  have hsh : WShape.hasAll [] args [.list .int] = true := (pre_splitW hpre).1
  have hc : l.pre.holds [] { args := args } = true := (pre_splitW hpre).2
  obtain ⟨d, r, rfl, h1, h2⟩ := hasAllW_cons hsh
  obtain rfl := hasAllW_nil h2
  obtain ⟨xs, rfl, h3⟩ := hasW_list h1
  obtain ⟨ns, rfl⟩ := items_int h3
  have hlen : ns.length ≤ n := by
    unfold OpenLaw.pre at hc
    have h4 : (WTm.not (.lt (.lit (.int (n : Int))) (.len (.arg 0)))).holds [] { args := [.list (ns.map .int)] } = true := by
      have h4 := (holds_andW hc).1
      rw [hn] at h4
      exact h4
    have h5 := condW_of h4 (w_not (w_lt w_lit (w_len_list (w_arg rfl))))
    rw [List.length_map] at h5
    refine Nat.le_of_not_lt fun q => ?_
    have q' : (n : Int) < ((ns.length : Nat) : Int) := by omega
    first
      | (rw [decide_eq_true q'] at h5; exact absurd h5 (by decide))
      | (simp at h5; omega)
  cases hwl with
  | cons w1 w2 =>
    cases w2
    cases w1 with
    | list ho hall => exact ⟨_, _, ns, rfl, rfl, ho, ints_of_wellAll ns _ hall, hlen⟩
theorem post_true (l : OpenLaw) (args : List WData) : l.row.toRowW.claim.post args (.bool true) args = true :=
  postW_of (r := l.row.toRowW) (X := (true == true))
    (show WShape.has [] (.bool true) .bool = true by first | rfl | decide | simp [WShape.has, WShape.arms, WShape.armsAll])
    (show (WTm.eq .res (.lit (.bool true))).value [] { args := args, res := some (.bool true), after := args } = some (.bool (true == true)) from w_eq_bool (w_res rfl) w_lit) rfl
theorem attach_call {l : OpenLaw} {n : Nat} {q : Program} {loose : List Str} {XP : (Str → Option Value) → Heap → Prop} {YP : World → Heap → Prop} {d : DefRec}
    (hn : l.most = some n) (hdf : d.params.defaults = [])
    (call : ∀ (w : World) (s₀ s₁ : Shared) (mg mb : Str → Option Value) (fa : Addr) (o : Obj) (pm cd doc : Value) (a : Addr) (vs : List Value) (ns : List Int),
      Ground q loose [] XP w s₀ mg mb s₁.heap → YP w s₁.heap →
      s₁.heap.get? fa = some o → o.data = .func (docDef d.name d.params d.body d.scope pm cd doc) → s₁.heap.CodeRec cd d.name → mg d.name = some (.ref fa) →
      s₁.heap.get? a = some { cls := .type "list", data := .seq vs.toArray } → IntsAre vs ns → ns.length ≤ n → s₁.gens = #[] →
      codeAny (model l.prog w) callerA (.call (.ref fa) ⟨[.ref a], []⟩) (fun r s' => r = .ok (.ret (.bool true)) ∧ OldK s₁.heap s'.heap ∧ s'.os = s₁.os ∧ AllBare s'.gens) s₁) :
    WalkO q loose XP YP l.row.toRowW d [] (fun f vs => PySem.call f vs) := by
  intro w s₀ s₁ mg mb G Y fa o pm cd doc dV kV ho hd hcd hD hmg hg args vals as hpre hlay hrd hwl hlo
  obtain rfl : dV = .none := Dflts.none hD hdf
  obtain rfl : kV = .none := Dflts.noKw hD
  obtain ⟨a, vs, ns, rfl, rfl, hobj, hints, hlen⟩ := script_of hn hpre hwl
  refine enter_call (codeAny_mono (call w s₀ s₁ mg mb fa o pm cd doc a vs ns G Y ho (fd_plain hd) hcd hmg hobj hints hlen hg) fun r s' hq => ?_)
  obtain ⟨rfl, h2, h3, h4⟩ := hq
  exact ⟨.inl ⟨.bool true, .bool true, [], rfl, fun _ => rfl, .bool true, post_true l _, fun _ => ⟨List.Pairwise.nil, fun _ hm => (nomatch hm)⟩⟩, h2, h3, h4⟩
section
variable {prog : Program} {w : World} {A : Around} {E : Value → Shared → Prop} {s : Shared} {K : Frag}
end
end Att
namespace L2
open PySem PySem.Spec PyProof.Rows
theorem vals_ints : ∀ {vs : List Value} {ns : List Int}, IntsAre vs ns → Vals (ns.map V.int) vs
  | _, _, .nil => .nil
  | _, _, .cons n t h => .cons ⟨t, rfl⟩ (vals_ints h)
def Only (H : Hp) : Prop := ∀ b, H b = none ∨ ∃ o xs, H b = some (.frz o (.lst xs))
theorem law_call {P : Program} {w : World} {K : PySem.W.Frag} {mg mb : Str → Option Value} {CX : CXT} {k : Nat} {fa a : Addr} {fd : FuncData} {x : Str} {sp : Sp} {s₁ : Shared} {vs : List Value} {ns : List Int}
    (KX : K.In s₁.heap) (hns : s₁.heap.Ns mainGlobals mg) (hb : s₁.heap.Ns builtinsNs mb) (hbb : ∀ x : Str, x ≠ "__name__" → mb x = bootBuiltins x) (hlim : s₁.heap.NoLimit) (hg : s₁.gens = #[])
    (ha : s₁.heap.get? a = some { cls := .type "list", data := .seq vs.toArray }) (hi : IntsAre vs ns) (hl : ns.length ≤ sizeLine) (hr : Room k callerA)
    (F : ∀ base : Heap, K.In base → base.Ns mainGlobals mg → FnOk P w K mg base CX k fa fd [x] sp) (hbind : ∀ (s : Shared) (u : Value), BindsTo s fd ⟨[u], []⟩ [(x, u)])
    (hsp : ∀ H : Hp, Only H → SqL K H a (ns.map V.int) → sp [.ref a] H (fun v _ => v = .bl true) fun _ _ _ => False)
    (hCX : ∀ H e s', CX [] H s₁ (fun _ _ _ => False) e s' → False) :
    codeAny (model P w) callerA (.call (.ref fa) ⟨[.ref a], []⟩) (fun r s' => r = .ok (.ret (.bool true)) ∧ OldK s₁.heap s'.heap ∧ s'.os = s₁.os ∧ AllBare s'.gens) s₁ := by
  have rv := vals_ints hi
  have lenV := hi.length
  -- from an abstract heap in which nothing but the script may be tracked
  have core : ∀ H : Hp, Only H → SqL K H a (ns.map V.int) → HOk P w H s₁.heap → (∀ b, H b ≠ none → b = a) → (H a ≠ none → K.lookup a = none) →
      codeAny (model P w) callerA (.call (.ref fa) ⟨[.ref a], []⟩) (fun r s' => r = .ok (.ret (.bool true)) ∧ OldK s₁.heap s'.heap ∧ s'.os = s₁.os ∧ AllBare s'.gens) s₁ := by
    intro H hO hS hok hA hK
    have base_of : ∀ {b : Addr} {o : Obj}, s₁.heap.get? b = some o → H b = none → (hidT s₁.heap H).get? b = some o := fun e n => hidT_get e n
    have noA : ∀ {b : Addr} {o : Obj} {es : Array DictEntry} {ep : Nat}, s₁.heap.get? b = some o → o.data = .dict es ep → H b = none := fun {b o es ep} e d => by
      cases q : H b with
      | none => rfl
      | some u =>
        have e' : b = a := hA b (by rw [q]; simp)
        subst e'
        rw [ha] at e; cases e
        have d' : Data.seq vs.toArray _ = Data.dict es ep := d
        cases d'
    have nsK : ∀ {b : Addr} {m : Str → Option Value}, s₁.heap.Ns b m → (hidT s₁.heap H).Ns b m := fun {b m} ⟨o, es, ep, e, d, r⟩ => ⟨o, es, ep, base_of e (noA e d), d, r⟩
    have hKb : K.In (hidT s₁.heap H) := fun b o e => base_of (KX b o e) (by
      cases q : H b with
      | none => rfl
      | some u =>
        have e' : b = a := hA b (by rw [q]; simp)
        subst e'
        rw [hK (by rw [q]; simp)] at e; cases e)
    have hM : Mod K mg (hidT s₁.heap H) := ⟨hKb, nsK hns, ⟨mb, nsK hb, hbb⟩, let ⟨mc, h1, h2⟩ := hlim; ⟨mc, nsK h1, h2⟩⟩
    have e0 : Env0 P w K mg (hidT s₁.heap H) callerA [] s₁ H := ⟨rfl, hM, fun b o e => of_hidT e, Nat.le_of_eq (hidT_size _ _), trivial, fun b hb => absurd (show b ∈ ([] : List Addr) from hb) (by simp), hok, .of_eq hg⟩
    refine codeAny_mono ((F _ hKb (nsK hns)).run callerA [] s₁ H ⟨[.ref a], []⟩ [.ref a] [.ref a] _ _ hr e0 (hbind s₁ (.ref a)) (.cons rfl .nil) (hsp H hO hS)) fun r s' h => ?_
    cases r with
    | error e => exact (hCX H e s' h).elim
    | ok fl =>
      cases fl with
      | next => exact False.elim h
      | brk => exact False.elim h
      | cont => exact False.elim h
      | ret u =>
        obtain ⟨v, H', os, bare, un, hok', r', q⟩ := h
        have q' : v = .bl true := q
        subst q'
        obtain rfl : u = Value.bool true := r'
        refine ⟨rfl, OldK.of_keep fun b o e => ?_, os, bare⟩
        cases q : H b with
        | none => exact un.keep b o e q (by intro z; exact absurd (show b ∈ ([] : List Addr) from z) (by simp)) (by simp)
        | some u =>
          rcases hO b with z | ⟨ob, xs, z⟩
          · rw [q] at z; cases z
          · have z2 := un.frzs b ob _ z
            obtain ⟨e1, _⟩ := hok b _ z
            obtain ⟨e2, _⟩ := hok' b _ z2
            rw [e] at e1; cases e1
            exact e2
  cases hk : K.lookup a with
  | some o =>
    -- the script is one of the module's own objects
    have e := KX a o hk
    rw [ha] at e
    cases e
    refine core (fun _ => none) (fun _ => .inl rfl) (.inr ⟨_, vs.toArray, _, hk, rfl, rfl, rfl, by rw [List.size_toArray, lenV]; exact hl, by simpa using rv⟩) (fun b u z => by have z' : (none : Option HO) = some u := z; cases z') (fun b z => absurd rfl z) fun z => absurd rfl z
  | none =>
    refine core (fun b => if b = a then some (.frz { cls := .type "list", data := .seq vs.toArray } (.lst (ns.map V.int))) else none) (fun b => ?_) (.inl (.inr ⟨{ cls := .type "list", data := .seq vs.toArray }, if_pos rfl⟩)) (fun b u z => ?_) (fun b z => ?_) fun _ => hk
    · by_cases hb : b = a
      · exact .inr ⟨_, _, if_pos hb⟩
      · exact .inl (if_neg hb)
    · by_cases hb : b = a
      · have z' := (if_pos hb).symm.trans z
        cases z'
        subst hb
        exact ⟨ha, by rw [List.length_map]; exact hl, vs, _, rv, ha⟩
      · have z' := (if_neg hb).symm.trans z
        cases z'
    · by_cases hb : b = a
      · exact hb
      · exact absurd (if_neg hb) z
end L2
namespace L2
open PySem PySem.Spec PyProof.Rows
abbrev KOf {K : PySem.W.Frag} {h : Heap} (_ : K.In h) : PySem.W.Frag := K
theorem walk_of {l : PySem.W.OpenLaw} {n k : Nat} {q : Program} {loose : List Str} {XP : (Str → Option Value) → Heap → Prop} {YP : World → Heap → Prop} {d : DefRec} {K : Params → PySem.W.Frag} {CX : World → CXT} {sp : World → Sp} {x : Str}
    (hn : l.most = some n) (hn2 : n ≤ sizeLine) (hdf : d.params.defaults = []) (hr : Room k callerA)
    (hY : ∀ (w : World) (h : Heap), YP w h → (K w.params).In h)
    (F : ∀ (w : World) (mg : Str → Option Value) (fa : Addr) (h : Heap), (K w.params).In h → h.Ns mainGlobals mg → mg d.name = some (.ref fa) →
      ∃ fd : FuncData, (∀ (s : Shared) (u : Value), BindsTo s fd ⟨[u], []⟩ [(x, u)]) ∧
        ∀ base : Heap, (K w.params).In base → base.Ns mainGlobals mg → FnOk l.prog w (K w.params) mg base (CX w) k fa fd [x] (sp w))
    (hsp : ∀ (w : World) (H : Hp) (a : Addr) (ns : List Int), ns.length ≤ n → Only H → SqL (K w.params) H a (ns.map V.int) → sp w [.ref a] H (fun v _ => v = .bl true) fun _ _ _ => False)
    (hCX : ∀ (w : World) (H : Hp) (s : Shared) (e : Value) (s' : Shared), CX w [] H s (fun _ _ _ => False) e s' → False) :
    PySem.W.WalkO q loose XP YP l.row.toRowW d [] (fun f vs => PySem.call f vs) := by
  refine Att.attach_call hn hdf fun w s₀ s₁ mg mb fa o pm cd doc a vs ns G Y ho hd hcd hmg hobj hints hlen hg => ?_
  have KX := hY w _ Y
  obtain ⟨fd, hb, hF⟩ := F w mg fa _ KX G.T.g hmg
  exact law_call KX G.T.g G.T.b G.T.builtins G.T.nolimit hg hobj hints (Nat.le_trans hlen hn2) hr hF hb (fun H hO hS => hsp w H a ns hlen hO hS) fun H e s' => hCX w H s₁ e s'
end L2
namespace L2
open PySem PySem.Spec PyProof.Rows
def defArgs (s : Stmt) : Arguments := match s with
  | .FunctionDef _ a _ _ _ _ _ _ _ _ => a
  | _ => { posonlyargs := [], args := [], vararg := none, kwonlyargs := [], kw_defaults := [], kwarg := none, defaults := [] }
def defBody (s : Stmt) : List Stmt := match s with
  | .FunctionDef _ _ b _ _ _ _ _ _ _ => b
  | _ => []
def defScope (s : Stmt) : Scope := match s with
  | .FunctionDef _ _ _ _ _ _ sc _ _ _ => sc
  | _ => { kind := .function, names := [], isGenerator := false, isCoroutine := false }
abbrev CX0 : CXT := fun _ _ _ _ _ _ => False
abbrev E0 : XK := fun _ _ _ => False
theorem pass0 {X : Cx} : Passes CX0 X E0 := fun _ _ _ _ _ _ _ h => h.elim
structure Fun (K : PySem.W.Frag) (x qual : Str) (st : Stmt) (f : Addr) (fd : FuncData) : Prop where
  ex : ∃ (oc : Value) (od : Option Addr) (kV doc pm : Value) (an : Option Addr) (cdv ct : Value) (osl : Array (Option Value)),
    fd = PySem.W.fnOf x qual (defArgs st) (defBody st) (defScope st) .none kV doc pm an cdv ct ∧ K.lookup f = some ⟨oc, od, .func fd, osl⟩ ∧ PySem.W.codeIn K cdv qual = true
  kp : PySem.W.keepIn K (.ref f) = true
section
variable {P : Program} {w : World} {K : PySem.W.Frag} {mg : Str → Option Value} {base : Heap}
theorem Fun.ok {x qual : Str} {st : Stmt} {f : Addr} {fd : FuncData} {N ps : List Str} {k : Nat} {sp : Sp} (F : Fun K x qual st f fd) (S : FnScope N ps (defScope st)) (len : ∀ vs H Q E, sp vs H Q E → vs.length = ps.length)
    (hbody : ∀ (cdv : Value) (A : Around) (outer : List Env) (s : Shared) (H : Hp) (vs : List V) (Q : VK) (E : XK), Room k (A.deeper (envOfC qual (defScope st) s.heap.objs.size f cdv)) → sp vs H Q E →
      ∃ t, PSs (cxOf CX0 P w K mg base N qual (defScope st) f cdv A outer s H E).nox (defBody st) t ∧ t { nx := fun _ H' => Q .non H', rt := Q } (start N vs) H) : FnOk P w K mg base CX0 (k + 1) f fd ps sp := by
  obtain ⟨oc, od, kV, doc, pm, an, cdv, ct, osl, rfl, lk, hcd⟩ := F.ex
  refine fn_of lk hcd S len fun A outer s H vs Q E hr hsp => ?_
  obtain ⟨t, h, q⟩ := hbody cdv A outer s H vs Q E hr hsp
  exact ⟨t, h.nox, q⟩
theorem Fun.binds {x qual : Str} {st : Stmt} {f : Addr} {fd : FuncData} {ps : List Str} (F : Fun K x qual st f fd)
    (h : ∀ (kV doc pm : Value) (an : Option Addr) (cdv ct : Value) (us : List Value), us.length = ps.length → bindArgs (PySem.W.fnOf x qual (defArgs st) (defBody st) (defScope st) .none kV doc pm an cdv ct) ⟨us, []⟩ = pure (ps.zip us)) : Binds K fd ps [] := by
  obtain ⟨oc, od, kV, doc, pm, an, cdv, ct, osl, rfl, lk, hcd⟩ := F.ex
  exact .all (h kV doc pm an cdv ct)
theorem fun_mk {x qual : Str} {st : Stmt} {f : Addr} {oc : Value} {od an : Option Addr} {osl : Array (Option Value)} {kV doc pm cdv ct : Value} (l : K.lookup f = some ⟨oc, od, .func (PySem.W.fnOf x qual (defArgs st) (defBody st) (defScope st) .none kV doc pm an cdv ct), osl⟩)
    (c : PySem.W.codeIn K cdv qual = true) (k : PySem.W.keepIn K (.ref f) = true) : Fun K x qual st f (PySem.W.fnOf x qual (defArgs st) (defBody st) (defScope st) .none kV doc pm an cdv ct) := ⟨⟨oc, od, kV, doc, pm, an, cdv, ct, osl, rfl, l, c⟩, k⟩
end
theorem small1000 {n : Nat} (h : n ≤ 1000) : n < sizeLine := Nat.lt_of_le_of_lt h (by decide)
section
variable {X : Cx}
theorem pv (i : Nat) {x : Str} {pos : Pos} (hN : X.N[i]? = some x := by rfl) (hv : Vis X.env.scope x := by first | exact Or.inl rfl | exact Or.inr (Or.inl rfl) | exact Or.inr (Or.inr rfl)) (hd : (x == ("__debug__" : Str)) = false := by decide)
    (hcd : (x == ("__classdict__" : Str)) = false := by decide) : PE X (.Name x pos) (tVar i) := pe_var hN hv hd hcd
end
theorem iteF {A B : Prop} (h : B) : if false = true then A else B := by
  rw [if_neg Bool.false_ne_true]
  exact h
theorem iteT {A B : Prop} (h : A) : if true = true then A else B := by
  rw [if_pos rfl]
  exact h
theorem iteNS {c A B : Prop} [Decidable c] (hc : c) (h : B) : if (!decide c) = true then A else B := by
  rw [decide_eq_true hc]
  exact iteF h
def Same (H H' : Hp) : Prop := ∀ b o, H b = some o → H' b = some o
theorem Same.refl (H : Hp) : Same H H := fun _ _ h => h
theorem Same.trans {H H1 H2 : Hp} (a : Same H H1) (b : Same H1 H2) : Same H H2 := fun c o h => b c o (a c o h)
theorem Same.free {H H' : Hp} (e : Same H H') {l : Addr} (h : H' l = Option.none) : H l = Option.none := by
  cases q : H l with
  | none => rfl
  | some o =>
    rw [e l o q] at h
    cases h
theorem Same.seq {K : PySem.W.Frag} {H H' : Hp} {a : Addr} {xs : List V} (e : Same H H') (h : SqL K H a xs) : SqL K H' a xs := by
  rcases h with (h | ⟨o, h⟩) | h
  · exact .inl (.inl (e _ _ h))
  · exact .inl (.inr ⟨o, e _ _ h⟩)
  · exact .inr h
end L2
set_option Elab.async false
set_option linter.all false
set_option maxRecDepth 100000
set_option maxHeartbeats 4000000
namespace L2
open PySem PySem.Spec PyProof.Rows
def Bits (n : Nat) (x : Int) : Prop := x.natAbs < 2 ^ n
theorem Bits.mono {n m : Nat} {x : Int} (h : Bits n x) (l : n ≤ m) : Bits m x := Nat.lt_of_lt_of_le h (Nat.pow_le_pow_right (by decide) l)
theorem Bits.neg {n : Nat} {x : Int} (h : Bits n x) : Bits n (-x) := by
  unfold Bits at *; rw [Int.natAbs_neg]; exact h
theorem Bits.sub {n : Nat} {x y : Int} (h : Bits n x) (k : Bits n y) : Bits (n + 1) (x - y) := by
  unfold Bits at *; rw [Nat.pow_succ]; omega
theorem Bits.log2 {n : Nat} {x : Int} (h : Bits n x) (hn : 0 < n) : x.natAbs.log2 < n := by
  by_cases z : x.natAbs = 0
  · rw [z]; exact Nat.lt_of_le_of_lt (by decide) hn
  · exact (Nat.log2_lt z).mpr h
theorem Bits.intBits {n : Nat} {x : Int} (h : Bits n x) : Builtin.Int.intBits x ≤ n := by
  unfold Builtin.Int.intBits
  by_cases z : (x == 0) = true
  · rw [if_pos z]; exact Nat.zero_le _
  · rw [if_neg z]
    have z' : x.natAbs ≠ 0 := by
      intro e; apply z; have : x = 0 := Int.natAbs_eq_zero.mp e; rw [this]; rfl
    exact (Nat.log2_lt z').mpr h
def CMulB (i j : Int) : Prop := ∃ n, n ≤ 1048576 ∧ Bits n i ∧ Bits n j
theorem CMulB.ok {i j : Int} (h : CMulB i j) : IntMulOk i j := by
  obtain ⟨n, hn, h1, h2⟩ := h
  exact .of_bits (Nat.le_trans h1.intBits (Nat.le_trans hn (by decide))) (Nat.le_trans h2.intBits (Nat.le_trans hn (by decide)))
section
variable {X : Cx}
theorem op_mulB : OpR X (binaryOp .Mult) (rI CMulB fun i j => .int (i * j)) := opI fun _ _ _ _ _ _ _ hc q => mul_int q hc.ok
end
section
variable {X : Cx} {pins : List (Addr × Obj)} {σ : St} {H : Hp} {s : Shared} {h' : Heap} {ch : List Addr}
theorem Inv.turnedL0 {t' : Nat} (I : Inv X pins σ H s) (k : ∀ b o, b ∉ ch → s.heap.get? b = some o → h'.get? b = some o) (hf : ∀ b ∈ ch, FpOk X pins H b) :
    Inv X pins σ H { s with heap := h', toks := t' } := by
  have nit : ∀ b u, H b = some u → b ∉ ch := fun b u e z => by rw [(hf b z).1] at e; cases e
  refine I.step (g' := s.gens) (d' := s.drawn) (ch := ch) (fun b hb => ⟨(hf b hb).2.2.2.1, (hf b hb).2.1, (hf b hb).2.2.2.2.1, (hf b hb).2.2.2.2.2⟩) (fun b o _ _ hc e _ => k b o hc e) (fun b o _ _ hc e _ => ⟨o.slots, k b o hc e⟩) (fun _ _ _ _ n => n)
    (fun b o hc e => ⟨o, k b o hc e⟩) (fun _ _ e => e) (fun _ _ _ e => e) (fun b ps e => ⟨#[], by rw [e]; simp⟩) (fun m hm => ?_) (fun b u e => ?_) I.bare
  · obtain ⟨o, es, ep, ho, r⟩ := hm
    exact ⟨o, es, ep, k _ o (fun z => (hf _ z).2.1 rfl) ho, r⟩
  · refine (I.hok b u e).stay (fun c v hc q => k c v ?_ q) (fun _ q => q) fun _ _ q => q
    rcases hc with z | z
    · rw [z]; exact nit b u e
    · exact nit c _ z
theorem Inv.turnedNew {t' : Nat} {T : Addr} {o : HO} (I : Inv X pins σ H s) (k : ∀ b o, b ∉ ch → s.heap.get? b = some o → h'.get? b = some o) (hf : ∀ b ∈ ch, FpOk X pins H b)
    (hT : s.heap.objs.size ≤ T) (new : ObjOk X.prog X.w (upd H T o) h' T o) :
    Inv X pins σ (upd H T o) { s with heap := h', toks := t' } := by
  have hn : H T = none := I.hok.fresh hT
  have nT : ∀ b ob, s.heap.get? b = some ob → b ≠ T := fun b ob e => Nat.ne_of_lt (Nat.lt_of_lt_of_le (Heap.lt_size e) hT)
  have nit : ∀ b u, H b = some u → b ∉ ch := fun b u e z => by rw [(hf b z).1] at e; cases e
  refine I.step (g' := s.gens) (d' := s.drawn) (ch := ch) (fun b hb => ⟨(hf b hb).2.2.2.1, (hf b hb).2.1, (hf b hb).2.2.2.2.1, (hf b hb).2.2.2.2.2⟩) (fun b o _ _ hc e _ => k b o hc e) (fun b o _ _ hc e _ => ⟨o.slots, k b o hc e⟩)
    (fun b ob _ e n => by rw [upd_ne (nT b ob e)]; exact n) (fun b o hc e => ⟨o, k b o hc e⟩) (fun b xs e => by rw [upd_ne (ne_of_none e hn)]; exact e) (fun b ob u e => by rw [upd_ne (ne_of_none e hn)]; exact e)
    (fun b ps e => ⟨#[], by rw [upd_ne (ne_of_none e hn), e]; simp⟩) (fun m hm => ?_) (fun b u e => ?_) I.bare
  · obtain ⟨ob, es, ep, ho, r⟩ := hm
    exact ⟨ob, es, ep, k _ ob (fun z => (hf _ z).2.1 rfl) ho, r⟩
  · by_cases hb : b = T
    · subst hb
      rw [upd_same] at e
      cases e
      exact new
    · rw [upd_ne hb] at e
      refine (I.hok b u e).stay (fun c v hc q => k c v ?_ q) (fun c q => by rw [upd_ne (ne_of_none q hn)]; exact q) fun c xs q => by rw [upd_ne (ne_of_none q hn)]; exact q
      rcases hc with z | z
      · rw [z]; exact nit b u e
      · exact nit c _ z
end
def SqB (K : PySem.W.Frag) (b : Bool) (H : Hp) (a : Addr) (xs : List V) : Prop := bif b then SqT K H a xs else SqL K H a xs
section
variable {X : Cx} {pins : List (Addr × Obj)} {σ : St} {H : Hp} {s : Shared} {a c : Addr} {xs ys : List V} {b : Bool}
theorem Inv.awayK (I : Inv X pins σ H s) (f : FpOk X pins H c) {o : Obj} (h : X.K.lookup a = some o) : a ≠ c := by
  intro z
  have h1 := I.mod.kin a o h
  have h2 := (I.ok.bs a o h1).1
  rcases f.2.2.2.1 with q | q
  · exact I.ok.noex a o h1 (by rw [z]; exact q)
  · rw [← z] at q; exact absurd (Nat.lt_of_lt_of_le (Heap.lt_size h2) q) (Nat.lt_irrefl _)
theorem Inv.away (I : Inv X pins σ H s) (f : FpOk X pins H c) (h : SqB X.K b H a xs) : a ≠ c := by
  have no : ∀ {u : HO}, H a = some u → a ≠ c := fun e z => by rw [z, f.1] at e; cases e
  cases b
  · rcases (show SqL X.K H a xs from h) with (e | ⟨o, e⟩) | ⟨o, its, n, e, _⟩
    · exact no e
    · exact no e
    · exact I.awayK f e
  · rcases (show SqT X.K H a xs from h) with (e | ⟨o, e⟩) | ⟨o, its, n, e, _⟩
    · exact no e
    · exact no e
    · exact I.awayK f e
end
def Ite (K : PySem.W.Frag) (a : Addr) : It :=
  ⟨fun i H => ∃ xs x, SqL K H a xs ∧ xs[i]? = some x,
   fun i H x H' => ∃ T v, x = .ref T ∧ H T = none ∧ H' = upd H T (.tup [.int (i : Nat), v]) ∧ ∀ xs, SqL K H a xs → xs[i]? = some v,
   fun i H => ∃ xs, SqL K H a xs ∧ xs.length ≤ i⟩
theorem turn_enum {P : Program} {w : World} {K : PySem.W.Frag} {es : List Expr} {k : Nat} {pos : Pos} (a e it : Addr) (hei : e ≠ it) :
    Turn P w K (.Tuple es k pos) (Ite K a) [e, it] e (fun i h => (∃ old, IsEnum h e it i old) ∧ h.IsListIter it a i) where
  mem := by simp
  obj := fun i h st b hb => by
    obtain ⟨⟨old, h1⟩, o, h2, c, d⟩ := st
    have hb' : b = e ∨ b = it := by simpa using hb
    rcases hb' with z | z
    · subst z
      exact ⟨_, h1, fun v z => by
        have z' : Data.fields _ = Data.cell v := z
        cases z'⟩
    · subst z; exact ⟨o, h2, fun v z => by rw [d] at z; cases z⟩
  keep := fun i h h' st kk => by
    obtain ⟨⟨old, h1⟩, st2⟩ := st
    exact ⟨⟨old, kk e (by simp) _ h1⟩, st2.at fun o q => kk it (by simp) o q⟩
  item := by
    intro X hP hw hK hc i pins s σ H E I hf st hg
    subst hP hw hK
    obtain ⟨xs, x, hq, hx⟩ := hg
    obtain ⟨its, rv, p, hz⟩ := I.list hq
    obtain ⟨u, hu, ru⟩ := rv.get hx
    obtain ⟨⟨old, he⟩, hit⟩ := st
    have hne : a ≠ it := I.away (b := false) (hf it (by simp)) hq
    have hea : e ≠ a := fun z => I.away (b := false) (hf e (by simp)) hq z.symm
    have D := Draws.list (prog := X.prog) (w := X.w) (A := X.A.in1) (I.ok.hd hc) it a hne its.toArray
    have hlt : i < its.toArray.size := by
      have := (List.getElem?_eq_some_iff.mp hu).1
      simpa using this
    refine wpAny_pyNext_enum_itemD D he ⟨hit, p.isList⟩ hlt hei (by simp [hei, hea]) fun y h1 tk hy ho hst ht hsz hk => ?_
    have ey : y = u := by
      have h2 : its[i]? = some y := by simpa using hy
      rw [hu] at h2; cases h2; rfl
    subst ey
    refine ⟨_, rfl, ?_⟩
    have hTe : s.heap.objs.size ≠ e := Nat.ne_of_gt (Heap.lt_size he)
    refine wpAny_letOwnedTupleGo_enum ho fun h2 he2 hs2 => ?_
    have hs2' : Heap.SameBut e h1 h2 := hs2
    have kk : ∀ b o, b ∉ [e, it] → s.heap.get? b = some o → h2.get? b = some o := fun b o hb q => by
      have hb' : b ≠ e ∧ b ≠ it := by simpa using hb
      exact (hs2'.2 b hb'.1).trans (hk b o hb'.1 hb'.2 q)
    have hT2 : h2.get? s.heap.objs.size = some { cls := .type "tuple", data := .seq #[.int i tk, y] } := (hs2'.2 _ hTe).trans ht
    have new : ObjOk X.prog X.w (upd H s.heap.objs.size (.tup [.int (i : Nat), x])) h2 s.heap.objs.size (.tup [.int (i : Nat), x]) :=
      ⟨by show 2 ≤ sizeLine; decide, [.int i tk, y], .cons ⟨tk, rfl⟩ (.cons ru .nil), ⟨_, hT2, rfl, _, rfl⟩⟩
    have hnT : H s.heap.objs.size = none := I.hok.fresh (Nat.le_refl _)
    refine ⟨.ref s.heap.objs.size, upd H s.heap.objs.size (.tup [.int (i : Nat), x]), I.turnedNew kk hf (Nat.le_refl _) new, rfl, ⟨_, x, rfl, hnT, rfl, fun ys hy' => by rw [I.list_inj hy' hq]; exact hx⟩,
      ⟨⟨_, by simpa using he2⟩, hst.1.at fun o q => (hs2'.2 it (Ne.symm hei)).trans q⟩, fun b hb => ?_⟩
    have hne2 : b ≠ s.heap.objs.size := by
      have hb' : b = e ∨ b = it := by simpa using hb
      rcases hb' with z | z
      · rw [z]; exact Ne.symm hTe
      · obtain ⟨o, q, _⟩ := hit
        rw [z]; exact Nat.ne_of_lt (Heap.lt_size q)
    rw [upd_ne hne2]
    exact (hf b hb).1
  done := by
    intro X hP hw hK hc i pins s σ H E I hf st hg
    subst hP hw hK
    obtain ⟨xs, hq, hx⟩ := hg
    obtain ⟨its, rv, p, hz⟩ := I.list hq
    obtain ⟨⟨old, he⟩, hit⟩ := st
    have hl := rv.length
    -- at the end the iterator yields no more
    have hT : s.TypeIs (.ref e) "enumerate" := ⟨_, he, rfl⟩
    unfold pyNext
    refine wpAny_bind (wpAny_attempt (wpAny_callSpecial?_slot (name := Str.ofString "__next__") hT F.slot_enumerate_next
      (wpAny_call_entry F.slot_enumerate_next hT F.entry_enumerate_next ?_ (F.args_enumerate_next_1 _))))
    show wpAny _ _ (field (.ref e) 2 >>= _) _ _ _
    refine wpAny_bind (wpAny_field he rfl (x := .ref it) rfl ?_)
    refine wpAny_bind (wpAny_nextOf_list_end (A := X.A.in1) (I.ok.hd hc) hit p.isList (by simp; omega) fun h1 ex hx1 hx2 => ?_)
    obtain ⟨o, ho, hcc⟩ := hx2
    refine wpAny_bind (wpAny_isInstance (T := "StopIteration") (b := true) ⟨o, ho, hcc⟩ isSubtype_stop ?_)
    refine wpAny_pure ⟨rfl, ?_⟩
    obtain ⟨f0, f1, f2, f3, f4, f5⟩ := hf it (by simp)
    exact I.turned (t' := s.toks) (fun b o hb q => hx1 b o hb q) f0 f1 f3 f4 f5
  self := fun _ _ _ _ _ st h => by
    obtain ⟨⟨old, he⟩, _⟩ := st
    exact wpAny_pyIter_enum he h
section
variable {X : Cx} {es : List Expr} {k : Nat} {tpos : Pos}
def iEnum (K : PySem.W.Frag) (ta : TA) : TI := fun σ H R => ta σ H fun vs H1 => ∃ a, vs = [.ref a] ∧ (∃ xs, SqL K H1 a xs) ∧ R (Ite K a) H1
theorem pi_enum {e : Expr} {ta : TA} {p pos : Pos} (hg : Gl X "enumerate") (hm : X.mg "enumerate" = none) (ha : PA X [e] ta) (hs : starEach [e] X.env = [(false, eval e X.env)] := by rfl) :
    PI X (.Tuple es k tpos) (.Call (.Name "enumerate" p) [e] [] pos) (iEnum X.K ta) := by
  intro pins s σ H R I h
  refine Call_ (ld_blt I hg hm (u := .type "enumerate") (by rfl) (PyProof.Rows.callWith_type1 (thn (ha pos pins s σ H _ I h) fun us s1 ⟨vs, H1, I1, r1, q1⟩ => ?_) hs rfl))
  obtain ⟨a, rfl, ⟨xs, hq⟩, q⟩ := q1
  obtain ⟨u, rfl, r⟩ := vals1 r1
  obtain rfl : u = Value.ref a := r
  obtain ⟨its, rv, p, hz⟩ := I1.list hq
  refine call_enumerate_list p.isList fun h1 h2 h3 h4 h5 => ?_
  refine wpAny_pyIter_enum h2 ?_
  have I2 : Inv X pins σ H1 { s1 with heap := h1 } := I1.kept (t' := s1.toks) h5
  refine ⟨s1.heap.objs.size + 1, [s1.heap.objs.size + 1, s1.heap.objs.size], _, _, H1, rfl, I2, turn_enum a _ _ (Nat.succ_ne_self _), ⟨⟨_, h2⟩, h3⟩, fun b hb => ?_, q⟩
  have hb' : b = s1.heap.objs.size + 1 ∨ b = s1.heap.objs.size := by simpa using hb
  have hle : s1.heap.objs.size ≤ b := by rcases hb' with z | z <;> rw [z] <;> first | exact Nat.le_add_right _ _ | exact Nat.le_refl _
  exact I1.fpOk hle (I1.hok.fresh hle)
end
theorem for_enum {K : PySem.W.Frag} {a : Addr} {xs : List V} {g : TG} {tb : TS} {D : Ends} {σ : St} {H : Hp} (Pv : Nat → St → Hp → Prop) (h0 : Pv 0 σ H) (hl : ∀ i σ H, i ≤ xs.length → Pv i σ H → SqL K H a xs)
    (hs : ∀ i x T σ H, xs[i]? = some x → H T = none → Pv i σ H → g (.ref T) σ (upd H T (.tup [.int (i : Nat), x])) fun σ2 H2 => tb { D with nx := Pv (i + 1), ct := Pv (i + 1), bk := D.nx } σ2 H2) (hd : ∀ σ H, Pv xs.length σ H → D.nx σ H) :
    ∃ W : Nat → Nat → St → Hp → Prop, (∃ m, W 0 m σ H) ∧ ∀ i m σ H, W i m σ H →
      ((Ite K a).stop i H ∧ D.nx σ H) ∨ ((Ite K a).go i H ∧ ∃ N : St → Hp → Prop, (∀ σ' H', N σ' H' → ∃ m', m' < m ∧ W (i + 1) m' σ' H') ∧ ∀ x H', (Ite K a).yld i H x H' → g x σ H' fun σ2 H2 => tb { D with nx := N, ct := N, bk := D.nx } σ2 H2) := by
  refine ⟨fun i m σ H => m = xs.length - i ∧ i ≤ xs.length ∧ Pv i σ H, ⟨xs.length, by simp, Nat.zero_le _, h0⟩, ?_⟩
  rintro i m σ H ⟨rfl, hi, p⟩
  have q := hl i σ H hi p
  by_cases hlt : i < xs.length
  · refine .inr ⟨⟨xs, xs[i], q, by simp [hlt]⟩, Pv (i + 1), fun σ' H' p' => ⟨xs.length - (i + 1), by omega, rfl, hlt, p'⟩, fun x H' y => ?_⟩
    obtain ⟨T, v, e1, e2, e3, y⟩ := y
    subst e1 e3
    exact hs i v T σ _ (y xs q) e2 p
  · have e : i = xs.length := by omega
    subst e
    exact .inl ⟨⟨xs, q, Nat.le_refl _⟩, hd σ H p⟩
end L2
set_option Elab.async false
set_option linter.all false
set_option maxRecDepth 100000
set_option maxHeartbeats 4000000
namespace L2
open PySem PySem.Spec PyProof.Rows
def SeqAt (h : Heap) (b : Bool) (l : Addr) (xs : Array Value) : Prop := bif b then h.IsTuple l xs else h.IsList l xs
def SItAt (h : Heap) (b : Bool) (it l : Addr) (i : Nat) : Prop := bif b then h.IsTupleIter it l i else h.IsListIter it l i
def itObj (b : Bool) (l : Addr) : Obj := { cls := .type (bif b then "tuple_iterator" else "list_iterator"), data := .fields #[.ref l, .int 0 0] }
theorem SeqAt.but {h h' : Heap} {b : Bool} {l c : Addr} {xs : Array Value} (x : SeqAt h b l xs) (e : Heap.ExtBut c h h') (n : l ≠ c) : SeqAt h' b l xs := by
  cases b
  · exact Heap.IsList.extBut x e n
  · exact Heap.IsTuple.extBut x e n
theorem SItAt.but {h h' : Heap} {b : Bool} {it l c : Addr} {i : Nat} (x : SItAt h b it l i) (e : Heap.ExtBut c h h') (n : it ≠ c) : SItAt h' b it l i := by
  cases b
  · exact Heap.IsListIter.extBut x e n
  · exact Heap.IsTupleIter.extBut x e n
theorem SItAt.keep {h h' : Heap} {b : Bool} {it l : Addr} {i : Nat} (x : SItAt h b it l i) (k : ∀ o, h.get? it = some o → h'.get? it = some o) : SItAt h' b it l i := by
  cases b
  · obtain ⟨o, e, r⟩ := (show h.IsListIter it l i from x); exact ⟨o, k o e, r⟩
  · obtain ⟨o, e, r⟩ := (show h.IsTupleIter it l i from x); exact ⟨o, k o e, r⟩
theorem SItAt.there {h : Heap} {b : Bool} {it l : Addr} {i : Nat} (x : SItAt h b it l i) : ∃ o, h.get? it = some o ∧ ∀ v, o.data ≠ .cell v := by
  cases b
  · obtain ⟨o, e, c, d⟩ := (show h.IsListIter it l i from x); exact ⟨o, e, fun v z => by rw [d] at z; cases z⟩
  · obtain ⟨o, e, c, d⟩ := (show h.IsTupleIter it l i from x); exact ⟨o, e, fun v z => by rw [d] at z; cases z⟩
section
variable {prog : Program} {w : World} {A : Around} {E : Value → Shared → Prop} {s : Shared}
theorem seq_iter {b : Bool} {l : Addr} {xs : Array Value} {Q : Value → Shared → Prop} (hl : SeqAt s.heap b l xs) (hQ : Q (.ref s.heap.objs.size) { s with heap := s.heap.push (itObj b l) }) : wpAny (model prog w) A (pyIter (.ref l)) Q E s := by
  cases b
  · exact wpAny_pyIter_list hl hQ
  · exact wpAny_pyIter_tuple hl hQ
theorem tup_draw {it t : Addr} {i : Nat} {its : Array Value} {x : Value} {Q : Value → Shared → Prop} (hit : s.heap.IsTupleIter it t i) (ht : s.heap.IsTuple t its) (hx : its[i]? = some x)
    (hQ : ∀ h1, h1.IsTupleIter it t (i + 1) → Heap.SameBut it s.heap h1 → Q x { s with heap := h1 }) : wpAny (model prog w) A (Builtin.SmallTypes.nextOf (.ref it)) Q E s := by
  obtain ⟨ob, hob, hcl, hdt⟩ := id hit
  obtain ⟨ot, hot, _, nt, hds⟩ := ht
  unfold Builtin.SmallTypes.nextOf
  refine wpAny_bind (wpAny_callSpecial?_slot (name := Str.ofString "__next__") hit.typeIs F.slot_tuple_iterator_next (wpAny_call_entry F.slot_tuple_iterator_next hit.typeIs F.entry_tuple_iterator_next ?_ (F.args_tuple_iterator_next_1 _)))
  show wpAny _ _ (field (.ref it) 0 >>= _) _ _ _
  refine wpAny_bind (wpAny_field hob hdt (x := .ref t) rfl ?_)
  show wpAny _ _ (if (Value.ref t == Value.none) = true then _ else _) _ _ _
  rw [if_neg (by simp)]
  show wpAny _ _ (field (.ref it) 1 >>= _) _ _ _
  refine wpAny_bind (wpAny_field hob hdt (x := .int i 0) rfl ?_)
  show wpAny _ _ (seqItems? (.ref t) >>= _) _ _ _
  refine wpAny_bind (wpAny_seqItems hot hds ?_)
  simp only [Int.toNat_natCast, hx]
  refine wpAny_bind (wpAny_setField hob hdt (by simp) (wpAny_pure ⟨x, rfl, wpAny_pure (hQ _ ⟨_, Heap.get?_update_self _ hob (Obj.isFreed_of_fields (Obj.data_mapFields hdt _)), (Obj.cls_mapFields ..).trans hcl, ?_⟩ (Heap.SameBut.update ..))⟩))
  rw [Obj.data_mapFields hdt]; simp [rawInt]
theorem tup_drawn {it t : Addr} {i : Nat} {its : Array Value} {Q : Value → Shared → Prop} (hh : A.handled = none) (hit : s.heap.IsTupleIter it t i) (ht : s.heap.IsTuple t its) (hx : its[i]? = none)
    (hE : ∀ h1 e, Heap.ExtBut it s.heap h1 → (∃ o, h1.get? e = some o ∧ o.cls = .type "StopIteration") → E (.ref e) { s with heap := h1 }) : wpAny (model prog w) A (Builtin.SmallTypes.nextOf (.ref it)) Q E s := by
  obtain ⟨ob, hob, hcl, hdt⟩ := id hit
  obtain ⟨ot, hot, _, nt, hds⟩ := ht
  unfold Builtin.SmallTypes.nextOf
  refine wpAny_bind (wpAny_callSpecial?_slot (name := Str.ofString "__next__") hit.typeIs F.slot_tuple_iterator_next (wpAny_call_entry F.slot_tuple_iterator_next hit.typeIs F.entry_tuple_iterator_next ?_ (F.args_tuple_iterator_next_1 _)))
  show wpAny _ _ (field (.ref it) 0 >>= _) _ _ _
  refine wpAny_bind (wpAny_field hob hdt (x := .ref t) rfl ?_)
  show wpAny _ _ (if (Value.ref t == Value.none) = true then _ else _) _ _ _
  rw [if_neg (by simp)]
  show wpAny _ _ (field (.ref it) 1 >>= _) _ _ _
  refine wpAny_bind (wpAny_field hob hdt (x := .int i 0) rfl ?_)
  show wpAny _ _ (seqItems? (.ref t) >>= _) _ _ _
  refine wpAny_bind (wpAny_seqItems hot hds ?_)
  simp only [Int.toNat_natCast, hx]
  refine wpAny_bind (wpAny_rule (wpAny_bind (wpAny_setField hob hdt (by simp) ?_)))
  show wpAny _ _ (newExc (.type "StopIteration") [] >>= _) _ _ _
  refine wpAny_bind ?_
  simp only [newExc, newTuple]
  refine wpAny_bind (wpAny_newObj_type ?_ (by size_fits))
  refine wpAny_bind (m := firstArgMember _ _) (wpAny_of_eq (a := Value.none) (by first | rfl | (simp only [firstArgMember]; rfl)) (wpAny_newObj_type ?_ (by size_fits)))
  simp only [raiseNew]
  refine wpAny_bind (wpAny_handled ?_)
  first | rw [show A.in1.handled = none from hh] | rw [hh]
  exact wpAny_bind (wpAny_pure (wpAny_throw (hE _ _ (((Heap.SameBut.update ..).extBut.push _).push _) ⟨_, Heap.get?_push_size _ rfl, rfl⟩)))
theorem seq_draw {b : Bool} {it l : Addr} {i : Nat} {xs : Array Value} {x : Value} {Q : Value → Shared → Prop} (hit : SItAt s.heap b it l i) (hl : SeqAt s.heap b l xs) (hx : xs[i]? = some x)
    (hQ : ∀ h1, SItAt h1 b it l (i + 1) → Heap.SameBut it s.heap h1 → Q x { s with heap := h1 }) : wpAny (model prog w) A (Builtin.SmallTypes.nextOf (.ref it)) Q E s := by
  cases b
  · exact wpAny_nextOf_list_item hit hl hx hQ
  · exact tup_draw hit hl hx hQ
theorem seq_drawn {b : Bool} {it l : Addr} {i : Nat} {xs : Array Value} {Q : Value → Shared → Prop} (hh : A.handled = none) (hit : SItAt s.heap b it l i) (hl : SeqAt s.heap b l xs) (hx : xs[i]? = none)
    (hE : ∀ h1 e, Heap.ExtBut it s.heap h1 → (∃ o, h1.get? e = some o ∧ o.cls = .type "StopIteration") → E (.ref e) { s with heap := h1 }) : wpAny (model prog w) A (Builtin.SmallTypes.nextOf (.ref it)) Q E s := by
  cases b
  · exact wpAny_nextOf_list_end hh hit hl hx hE
  · exact tup_drawn hh hit hl hx hE
structure ZA (z TI TO i1 i2 : Addr) : Prop where
  a1 : TI ≠ z
  a2 : TO ≠ z
  a3 : i1 ≠ z
  a4 : i2 ≠ z
  a5 : TI ≠ TO
  a6 : TI ≠ i1
  a7 : TI ≠ i2
  a8 : TO ≠ i1
  a9 : TO ≠ i2
  a0 : i1 ≠ i2
def Off (z TI TO i1 i2 l : Addr) : Prop := l ≠ z ∧ l ≠ TO ∧ l ≠ i1 ∧ l ≠ i2
theorem zipN_item {b1 b2 : Bool} {z TI TO i1 i2 l1 l2 : Addr} {k : Nat} {xs ys : Array Value} {x y p q : Value} {Q : Value → Shared → Prop} (D : ZA z TI TO i1 i2) (f1 : Off z TI TO i1 i2 l1) (f2 : Off z TI TO i1 i2 l2)
    (hz : IsZip s.heap z TI TO .none) (hI : IsPair s.heap TI (.ref i1) (.ref i2)) (hO : IsPair s.heap TO p q) (h1 : SItAt s.heap b1 i1 l1 k) (h2 : SItAt s.heap b2 i2 l2 k) (hl1 : SeqAt s.heap b1 l1 xs) (hl2 : SeqAt s.heap b2 l2 ys) (hx : xs[k]? = some x) (hy : ys[k]? = some y)
    (hQ : ∀ g, IsZip g z TI TO (rawInt s.heap.objs.size) → IsPair g TO x y → SItAt g b1 i1 l1 (k + 1) → SItAt g b2 i2 l2 (k + 1) → IsPair g s.heap.objs.size x y →
      (∀ c o, c ≠ z → c ≠ TO → c ≠ i1 → c ≠ i2 → s.heap.get? c = some o → g.get? c = some o) → Q (.ref s.heap.objs.size) { s with heap := g }) :
    wpAny (model prog w) A (Builtin.«zip.__next__» ⟨[.ref z], []⟩) (fun fin s1 => ∃ v, fin = .done (.ret v) ∧ Q v s1) E s := by
  show wpAny _ _ (field (.ref z) 2 >>= _) _ _ _
  refine wpAny_bind (wpAny_field hz rfl (x := .bool false) rfl ?_)
  show wpAny _ _ (field (.ref z) 3 >>= _) _ _ _
  refine wpAny_bind (wpAny_field hz rfl (x := .ref TI) rfl (wpAny_bind (wpAny_seqItems hI rfl ?_)))
  show wpAny _ _ (Builtin.SmallTypes.ownedTupleIsFree (.ref z) >>= _) _ _ _
  refine wpAny_bind ?_
  unfold Builtin.SmallTypes.ownedTupleIsFree
  refine wpAny_bind (wpAny_field hz rfl (x := .none) rfl (wpAny_pure ?_))
  simp only [if_true]
  refine wpAny_bind (wpAny_rule (wpAny_bind (wpAny_field hz rfl (x := .ref TO) rfl (wpAny_bind (wpAny_setField_rec hz (by simp) fun g1 z1 e1 => ?_)))))
  replace z1 : IsZip g1 z TI TO .ellipsis := z1
  refine wpAny_bind ?_
  simp only [List.zipIdx_cons, List.zipIdx_nil, List.forIn_cons, List.forIn_nil]
  refine wpAny_bind (wpAny_bind (wpAny_onRaise ?_))
  show wpAny _ _ (Builtin.SmallTypes.nextOf (.ref i1) >>= _) _ _ _
  refine wpAny_bind (seq_draw (h1.but e1.extBut D.a3) (hl1.but e1.extBut f1.1) hx fun g2 j2 e2 => wpAny_pure ?_)
  have o2 : IsPair g2 TO p q := e2.extBut _ _ D.a8 (e1.extBut _ _ D.a2 hO)
  refine wpAny_bind (wpAny_seqItems o2 rfl (wpAny_bind (wpAny_updateSeq_pair o2 fun g3 o3 e3 => ?_)))
  replace o3 : IsPair g3 TO x q := o3
  refine wpAny_bind (wpAny_letGo (wpAny_pure (wpAny_bind (wpAny_bind (wpAny_onRaise ?_)))))
  show wpAny _ _ (Builtin.SmallTypes.nextOf (.ref i2) >>= _) _ _ _
  refine wpAny_bind (seq_draw (((h2.but e1.extBut D.a4).but e2.extBut D.a0.symm).but e3.extBut D.a9.symm) (((hl2.but e1.extBut f2.1).but e2.extBut f2.2.2.1).but e3.extBut f2.2.1) hy fun g4 j4 e4 => wpAny_pure ?_)
  have o4 : IsPair g4 TO x q := e4.extBut _ _ D.a9 o3
  refine wpAny_bind (wpAny_seqItems o4 rfl (wpAny_bind (wpAny_updateSeq_pair o4 fun g5 o5 e5 => ?_)))
  replace o5 : IsPair g5 TO x y := o5
  refine wpAny_bind (wpAny_letGo (wpAny_pure (wpAny_pure (wpAny_bind (wpAny_seqItems o5 rfl (wpAny_bind (wpAny_newTuple ?_)))))))
  have sz : g5.objs.size = s.heap.objs.size := by rw [e5.1, e4.1, e3.1, e2.1, e1.1]
  have z5 : IsZip g5 z TI TO .ellipsis := e5.extBut _ _ D.a2.symm (e4.extBut _ _ D.a4.symm (e3.extBut _ _ D.a2.symm (e2.extBut _ _ D.a3.symm z1)))
  have k5 : ∀ c o, c ≠ z → c ≠ TO → c ≠ i1 → c ≠ i2 → s.heap.get? c = some o → g5.get? c = some o := fun c o c1 c2 c3 c4 e => e5.extBut _ _ c2 (e4.extBut _ _ c4 (e3.extBut _ _ c2 (e2.extBut _ _ c3 (e1.extBut _ _ c1 e))))
  have j5 : SItAt g5 b1 i1 l1 (k + 1) := ((j2.but e3.extBut D.a8.symm).but e4.extBut D.a0).but e5.extBut D.a8.symm
  have j6 : SItAt g5 b2 i2 l2 (k + 1) := j4.but e5.extBut D.a9.symm
  have lz : z < g5.objs.size := Heap.lt_size z5
  show wpAny _ _ (Builtin.SmallTypes.ownedTupleHandOut (.ref z) (.ref g5.objs.size) >>= _) _ _ _
  refine wpAny_bind ?_
  unfold Builtin.SmallTypes.ownedTupleHandOut
  have z6 : IsZip (g5.push { cls := .type "tuple", data := .seq #[x, y] }) z TI TO .ellipsis := Heap.get?_push_of_some _ z5
  refine wpAny_bind (wpAny_setField_rec z6 (by simp) fun g7 z7 e7 => ?_)
  replace z7 : IsZip g7 z TI TO (rawInt g5.objs.size) := z7
  refine wpAny_setField_rec z7 (by simp) fun g8 z8 e8 => ?_
  replace z8 : IsZip g8 z TI TO (rawInt g5.objs.size) := z8
  have up : ∀ c o, c ≠ z → g5.get? c = some o → g8.get? c = some o := fun c o c1 e => e8.extBut _ _ c1 (e7.extBut _ _ c1 (Heap.get?_push_of_some _ e))
  have t8 : IsPair g8 g5.objs.size x y := e8.extBut _ _ (Nat.ne_of_gt lz) (e7.extBut _ _ (Nat.ne_of_gt lz) (Heap.get?_push_size _ rfl))
  rw [sz] at z8 t8
  refine wpAny_pure ⟨_, rfl, ?_⟩
  show Q (.ref g5.objs.size) _
  rw [sz]
  exact hQ g8 z8 (up _ _ D.a2 o5) (j5.keep fun o e => up _ o D.a3 e) (j6.keep fun o e => up _ o D.a4 e) t8 fun c o c1 c2 c3 c4 e => up c o c1 (k5 c o c1 c2 c3 c4 e)
theorem zipN_end {b1 b2 : Bool} {z TI TO i1 i2 l1 l2 : Addr} {k : Nat} {xs ys : Array Value} {p q : Value} {Q : Fin → Shared → Prop} (hh : A.handled = none) (D : ZA z TI TO i1 i2) (f1 : Off z TI TO i1 i2 l1) (f2 : Off z TI TO i1 i2 l2)
    (hz : IsZip s.heap z TI TO .none) (hI : IsPair s.heap TI (.ref i1) (.ref i2)) (hO : IsPair s.heap TO p q) (h1 : SItAt s.heap b1 i1 l1 k) (h2 : SItAt s.heap b2 i2 l2 k) (hl1 : SeqAt s.heap b1 l1 xs) (hl2 : SeqAt s.heap b2 l2 ys) (he : xs[k]? = none ∨ ys[k]? = none)
    (hE : ∀ g e, (∀ c o, c ≠ z → c ≠ TO → c ≠ i1 → c ≠ i2 → s.heap.get? c = some o → g.get? c = some o) → (∃ o, g.get? e = some o ∧ o.cls = .type "StopIteration") → E (.ref e) { s with heap := g }) :
    wpAny (model prog w) A (Builtin.«zip.__next__» ⟨[.ref z], []⟩) Q E s := by
  show wpAny _ _ (field (.ref z) 2 >>= _) _ _ _
  refine wpAny_bind (wpAny_field hz rfl (x := .bool false) rfl ?_)
  show wpAny _ _ (field (.ref z) 3 >>= _) _ _ _
  refine wpAny_bind (wpAny_field hz rfl (x := .ref TI) rfl (wpAny_bind (wpAny_seqItems hI rfl ?_)))
  show wpAny _ _ (Builtin.SmallTypes.ownedTupleIsFree (.ref z) >>= _) _ _ _
  refine wpAny_bind ?_
  unfold Builtin.SmallTypes.ownedTupleIsFree
  refine wpAny_bind (wpAny_field hz rfl (x := .none) rfl (wpAny_pure ?_))
  simp only [if_true]
  refine wpAny_bind (wpAny_rule (wpAny_bind (wpAny_field hz rfl (x := .ref TO) rfl (wpAny_bind (wpAny_setField_rec hz (by simp) fun g1 z1 e1 => ?_)))))
  replace z1 : IsZip g1 z TI TO .ellipsis := z1
  refine wpAny_bind ?_
  simp only [List.zipIdx_cons, List.zipIdx_nil, List.forIn_cons, List.forIn_nil]
  refine wpAny_bind (wpAny_bind (wpAny_onRaise ?_))
  show wpAny _ _ (Builtin.SmallTypes.nextOf (.ref i1) >>= _) _ _ _
  cases hx : xs[k]? with
  | none =>
    refine wpAny_bind (seq_drawn hh (h1.but e1.extBut D.a3) (hl1.but e1.extBut f1.1) hx fun g2 e e2 hs => ?_)
    obtain ⟨oe, hoe, hce⟩ := hs
    have z2 : IsZip g2 z TI TO .ellipsis := e2 _ _ D.a3.symm z1
    have ne : e ≠ z := fun x => by subst x; rw [z2] at hoe; cases hoe; simp at hce
    exact wpAny_setField_rec z2 (by simp) fun g3 _ e3 => hE g3 e (fun c o c1 _ c3 _ x => e3.extBut _ _ c1 (e2 _ _ c3 (e1.extBut _ _ c1 x))) ⟨oe, e3.extBut _ _ ne hoe, hce⟩
  | some x =>
    have hy : ys[k]? = none := by
      rcases he with h | h
      · rw [hx] at h; cases h
      · exact h
    refine wpAny_bind (seq_draw (h1.but e1.extBut D.a3) (hl1.but e1.extBut f1.1) hx fun g2 j2 e2 => wpAny_pure ?_)
    have o2 : IsPair g2 TO p q := e2.extBut _ _ D.a8 (e1.extBut _ _ D.a2 hO)
    refine wpAny_bind (wpAny_seqItems o2 rfl (wpAny_bind (wpAny_updateSeq_pair o2 fun g3 o3 e3 => ?_)))
    refine wpAny_bind (wpAny_letGo (wpAny_pure (wpAny_bind (wpAny_bind (wpAny_onRaise ?_)))))
    show wpAny _ _ (Builtin.SmallTypes.nextOf (.ref i2) >>= _) _ _ _
    refine wpAny_bind (seq_drawn hh (((h2.but e1.extBut D.a4).but e2.extBut D.a0.symm).but e3.extBut D.a9.symm) (((hl2.but e1.extBut f2.1).but e2.extBut f2.2.2.1).but e3.extBut f2.2.1) hy fun g4 e e4 hs => ?_)
    obtain ⟨oe, hoe, hce⟩ := hs
    have z4 : IsZip g4 z TI TO .ellipsis := e4 _ _ D.a4.symm (e3.extBut _ _ D.a2.symm (e2.extBut _ _ D.a3.symm z1))
    have ne : e ≠ z := fun x => by subst x; rw [z4] at hoe; cases hoe; simp at hce
    exact wpAny_setField_rec z4 (by simp) fun g5 _ e5 => hE g5 e (fun c o c1 c2 c3 c4 x => e5.extBut _ _ c1 (e4 _ _ c4 (e3.extBut _ _ c2 (e2.extBut _ _ c3 (e1.extBut _ _ c1 x))))) ⟨oe, e5.extBut _ _ ne hoe, hce⟩
end
abbrev zg1 (h : Heap) (b1 : Bool) (l1 : Addr) : Heap := h.push (itObj b1 l1)
abbrev zg2 (h : Heap) (b1 b2 : Bool) (l1 l2 : Addr) : Heap := (zg1 h b1 l1).push (itObj b2 l2)
abbrev zg3 (h : Heap) (b1 b2 : Bool) (l1 l2 : Addr) : Heap := (zg2 h b1 b2 l1 l2).push { cls := .type "tuple", data := .seq #[.ref h.objs.size, .ref (zg1 h b1 l1).objs.size] }
abbrev zg4 (h : Heap) (b1 b2 : Bool) (l1 l2 : Addr) : Heap := (zg3 h b1 b2 l1 l2).push { cls := .type "tuple", data := .seq #[.none, .none] }
abbrev zg5 (h : Heap) (b1 b2 : Bool) (l1 l2 : Addr) : Heap := (zg4 h b1 b2 l1 l2).push { cls := .type "zip", data := .fields #[.none, .bool false, .bool false, .ref (zg2 h b1 b2 l1 l2).objs.size, .ref (zg3 h b1 b2 l1 l2).objs.size] }
theorem SeqAt.push {h : Heap} {b : Bool} {l : Addr} {xs : Array Value} (x : SeqAt h b l xs) (o : Obj) : SeqAt (h.push o) b l xs := by
  cases b
  · exact Heap.IsList.push x o
  · exact Heap.IsTuple.push x o
theorem zipN_new (b1 b2 : Bool) (l1 l2 : Addr) (xs ys : Array Value) :
    Meets (Builtin.«zip.__new__» ⟨[.type "zip", .ref l1, .ref l2], []⟩) (fun _ R s => SeqAt s.heap b1 l1 xs ∧ SeqAt s.heap b2 l2 ys ∧
      R (.ok (.ret (.ref (zg4 s.heap b1 b2 l1 l2).objs.size))) { s with heap := zg5 s.heap b1 b2 l1 l2 }) :=
  .of_wp fun prog w A R s h => by
    obtain ⟨hp, g, d, tk, os⟩ := s; obtain ⟨g1, g2, h⟩ := h
    have hsub := sub_zip
    have q1 : SeqAt (Shared.heap ⟨hp, g, d, tk, os⟩) b1 l1 xs := g1
    have q2 : SeqAt (Shared.heap ⟨hp.push (itObj b1 l1), g, d, tk, os⟩) b2 l2 ys := SeqAt.push g2 _
    wp_walk using seq_iter q1, seq_iter q2
    exact ⟨_, rfl, h⟩
section
variable {prog : Program} {w : World} {A : Around} {E : Value → Shared → Prop} {s : Shared}
theorem call_zipN {b1 b2 : Bool} {l1 l2 : Addr} {xs ys : Array Value} {Q : Value → Shared → Prop} (q1 : SeqAt s.heap b1 l1 xs) (q2 : SeqAt s.heap b2 l2 ys)
    (h : ∀ g, IsZip g (s.heap.objs.size + 4) (s.heap.objs.size + 2) (s.heap.objs.size + 3) .none → IsPair g (s.heap.objs.size + 2) (.ref s.heap.objs.size) (.ref (s.heap.objs.size + 1)) →
      IsPair g (s.heap.objs.size + 3) .none .none → SItAt g b1 s.heap.objs.size l1 0 → SItAt g b2 (s.heap.objs.size + 1) l2 0 →
      (∀ c o, s.heap.get? c = some o → g.get? c = some o) → Q (.ref (s.heap.objs.size + 4)) { s with heap := g }) :
    wpAny (model prog w) A (call (.type "zip") [.ref l1, .ref l2]) Q E s := by
  refine callType_new F.called_zip (by decide) (F.typeCall_zip_2 _ _) (F.newCall_zip_2 _ _) (fun obj => F.args_object_init_3 obj _ _) F.entry_zip_new (zipN_new b1 b2 l1 l2 xs ys) ⟨q1, q2, ?_⟩
  have y1 : (zg1 s.heap b1 l1).objs.size = s.heap.objs.size + 1 := Heap.size_push ..
  have y2 : (zg2 s.heap b1 b2 l1 l2).objs.size = s.heap.objs.size + 2 := by rw [Heap.size_push, y1]
  have y3 : (zg3 s.heap b1 b2 l1 l2).objs.size = s.heap.objs.size + 3 := by rw [Heap.size_push, y2]
  have y4 : (zg4 s.heap b1 b2 l1 l2).objs.size = s.heap.objs.size + 4 := by rw [Heap.size_push, y3]
  have r5 : (zg5 s.heap b1 b2 l1 l2).get? (zg4 s.heap b1 b2 l1 l2).objs.size = some _ := Heap.get?_push_size _ rfl
  have r4 : (zg5 s.heap b1 b2 l1 l2).get? (zg3 s.heap b1 b2 l1 l2).objs.size = some _ := Heap.get?_push_of_some _ (Heap.get?_push_size _ rfl)
  have r3 : (zg5 s.heap b1 b2 l1 l2).get? (zg2 s.heap b1 b2 l1 l2).objs.size = some _ := Heap.get?_push_of_some _ (Heap.get?_push_of_some _ (Heap.get?_push_size _ rfl))
  have r2 : (zg5 s.heap b1 b2 l1 l2).get? (zg1 s.heap b1 l1).objs.size = some (itObj b2 l2) := Heap.get?_push_of_some _ (Heap.get?_push_of_some _ (Heap.get?_push_of_some _ (Heap.get?_push_size _ (by cases b2 <;> rfl))))
  have r1 : (zg5 s.heap b1 b2 l1 l2).get? s.heap.objs.size = some (itObj b1 l1) := Heap.get?_push_of_some _ (Heap.get?_push_of_some _ (Heap.get?_push_of_some _ (Heap.get?_push_of_some _ (Heap.get?_push_size _ (by cases b1 <;> rfl)))))
  show _ ∧ _
  rw [y2, y3, y4] at r5
  rw [y1, y2] at r3
  rw [y3] at r4
  rw [y1] at r2
  rw [y4]
  refine ⟨⟨_, r5, rfl⟩, h _ r5 r3 r4 ?_ ?_ fun c o x => Heap.get?_push_of_some _ (Heap.get?_push_of_some _ (Heap.get?_push_of_some _ (Heap.get?_push_of_some _ (Heap.get?_push_of_some _ x))))⟩
  · cases b1
    · exact (show Heap.IsListIter _ _ _ _ from ⟨_, r1, rfl, rfl⟩)
    · exact (show Heap.IsTupleIter _ _ _ _ from ⟨_, r1, rfl, rfl⟩)
  · cases b2
    · exact (show Heap.IsListIter _ _ _ _ from ⟨_, r2, rfl, rfl⟩)
    · exact (show Heap.IsTupleIter _ _ _ _ from ⟨_, r2, rfl, rfl⟩)
end
section
variable {X : Cx} {pins : List (Addr × Obj)} {σ : St} {H : Hp} {s : Shared} {a c : Addr} {xs ys : List V} {b : Bool}
theorem Inv.seqB (I : Inv X pins σ H s) (h : SqB X.K b H a xs) : ∃ its : List Value, Vals xs its ∧ SeqAt s.heap b a its.toArray := by
  cases b
  · obtain ⟨its, r, p, _⟩ := I.list (show SqL X.K H a xs from h)
    exact ⟨its, r, p.isList⟩
  · obtain ⟨its, r, p, _⟩ := I.tuple (show SqT X.K H a xs from h)
    exact ⟨its, r, p⟩
theorem Inv.seqB_inj (I : Inv X pins σ H s) (h : SqB X.K b H a xs) (h' : SqB X.K b H a ys) : xs = ys := by
  cases b
  · exact I.list_inj h h'
  · exact I.tuple_inj h h'
end
def Itz (K : PySem.W.Frag) (b1 b2 : Bool) (a1 a2 : Addr) : It :=
  ⟨fun i H => ∃ xs ys x y, SqB K b1 H a1 xs ∧ SqB K b2 H a2 ys ∧ xs[i]? = some x ∧ ys[i]? = some y,
   fun i H x H' => ∃ T v u, x = .ref T ∧ H T = none ∧ H' = upd H T (.tup [v, u]) ∧ (∀ xs, SqB K b1 H a1 xs → xs[i]? = some v) ∧ ∀ ys, SqB K b2 H a2 ys → ys[i]? = some u,
   fun i H => ∃ xs ys, SqB K b1 H a1 xs ∧ SqB K b2 H a2 ys ∧ (xs.length ≤ i ∨ ys.length ≤ i)⟩
theorem turn_zip {P : Program} {w : World} {K : PySem.W.Frag} {es : List Expr} {k : Nat} {pos : Pos} (b1 b2 : Bool) (a1 a2 z TI TO i1 i2 : Addr) (D : ZA z TI TO i1 i2) :
    Turn P w K (.Tuple es k pos) (Itz K b1 b2 a1 a2) [z, TI, TO, i1, i2] z (fun i h => IsZip h z TI TO .none ∧ IsPair h TI (.ref i1) (.ref i2) ∧ (∃ p q, IsPair h TO p q) ∧ SItAt h b1 i1 a1 i ∧ SItAt h b2 i2 a2 i) where
  mem := by simp
  obj := fun i h st b hb => by
    obtain ⟨h1, h2, ⟨p, q, h3⟩, h4, h5⟩ := st
    have hb' : b = z ∨ b = TI ∨ b = TO ∨ b = i1 ∨ b = i2 := by simpa using hb
    rcases hb' with e | e | e | e | e
    · subst e; exact ⟨_, h1, fun v z => by
        have z' : Data.fields _ = Data.cell v := z
        cases z'⟩
    · subst e; exact ⟨_, h2, fun v z => by
        have z' : Data.seq _ _ = Data.cell v := z
        cases z'⟩
    · subst e; exact ⟨_, h3, fun v z => by
        have z' : Data.seq _ _ = Data.cell v := z
        cases z'⟩
    · subst e; exact h4.there
    · subst e; exact h5.there
  keep := fun i h h' st kk => by
    obtain ⟨h1, h2, ⟨p, q, h3⟩, h4, h5⟩ := st
    exact ⟨kk z (by simp) _ h1, kk TI (by simp) _ h2, ⟨p, q, kk TO (by simp) _ h3⟩, h4.keep fun o e => kk i1 (by simp) o e, h5.keep fun o e => kk i2 (by simp) o e⟩
  item := by
    intro X hP hw hK hc i pins s σ H E I hf st hg
    subst hP hw hK
    obtain ⟨xs, ys, x, y, q1, q2, hx, hy⟩ := hg
    obtain ⟨h1, h2, ⟨p, q, h3⟩, h4, h5⟩ := st
    obtain ⟨its, rv, p1⟩ := I.seqB q1
    obtain ⟨jts, rw', p2⟩ := I.seqB q2
    obtain ⟨u, hu, ru⟩ := rv.get hx
    obtain ⟨v, hv, rv2⟩ := rw'.get hy
    have off : ∀ {b : Bool} {a : Addr} {zs : List V}, SqB X.K b H a zs → Off z TI TO i1 i2 a := fun hq =>
      ⟨I.away (hf z (by simp)) hq, I.away (hf TO (by simp)) hq, I.away (hf i1 (by simp)) hq, I.away (hf i2 (by simp)) hq⟩
    have hT : s.TypeIs (.ref z) "zip" := ⟨_, h1, rfl⟩
    unfold pyNext
    refine wpAny_bind (wpAny_attempt (wpAny_callSpecial?_slot (name := Str.ofString "__next__") hT F.slot_zip_next (wpAny_call_entry F.slot_zip_next hT F.entry_zip_next (zipN_item D (off q1) (off q2) h1 h2 h3 h4 h5 p1 p2 (by simpa using hu) (by simpa using hv) fun g y1 y2 y3 y4 y5 y6 => ?_) (F.args_zip_next_1 _))))
    refine wpAny_pure ⟨_, rfl, ?_⟩
    have lt : ∀ {c o}, s.heap.get? c = some o → s.heap.objs.size ≠ c := fun e => Nat.ne_of_gt (Heap.lt_size e)
    refine wpAny_letOwnedTupleGo_zip y1 fun g2 z2 e2 => ?_
    have e2' : Heap.SameBut z g g2 := e2
    have kk : ∀ b o, b ∉ [z, TI, TO, i1, i2] → s.heap.get? b = some o → g2.get? b = some o := fun b o hb q => by
      have hb' : b ≠ z ∧ b ≠ TI ∧ b ≠ TO ∧ b ≠ i1 ∧ b ≠ i2 := by simpa using hb
      exact e2'.extBut _ _ hb'.1 (y6 b o hb'.1 hb'.2.2.1 hb'.2.2.2.1 hb'.2.2.2.2 q)
    have hT2 : g2.get? s.heap.objs.size = some { cls := .type "tuple", data := .seq #[u, v] } := e2'.extBut _ _ (lt h1) y5
    have new : ObjOk X.prog X.w (upd H s.heap.objs.size (.tup [x, y])) g2 s.heap.objs.size (.tup [x, y]) := ⟨by show 2 ≤ sizeLine; decide, [u, v], .cons ru (.cons rv2 .nil), ⟨_, hT2, rfl, _, rfl⟩⟩
    have hnT : H s.heap.objs.size = none := I.hok.fresh (Nat.le_refl _)
    refine ⟨.ref s.heap.objs.size, upd H s.heap.objs.size (.tup [x, y]), I.turnedNew kk hf (Nat.le_refl _) new, rfl, ⟨_, x, y, rfl, hnT, rfl, fun zs hz => by rw [I.seqB_inj hz q1]; exact hx, fun zs hz => by rw [I.seqB_inj hz q2]; exact hy⟩,
      ⟨z2, e2'.extBut _ _ D.a1 (y6 _ _ D.a1 D.a5 D.a6 D.a7 h2), ⟨_, _, e2'.extBut _ _ D.a2 y2⟩, y3.but e2'.extBut D.a3, y4.but e2'.extBut D.a4⟩, fun b hb => ?_⟩
    have hne : b ≠ s.heap.objs.size := by
      have hb' : b = z ∨ b = TI ∨ b = TO ∨ b = i1 ∨ b = i2 := by simpa using hb
      rcases hb' with e | e | e | e | e
      · rw [e]; exact Ne.symm (lt h1)
      · rw [e]; exact Ne.symm (lt h2)
      · rw [e]; exact Ne.symm (lt h3)
      · obtain ⟨o, q, _⟩ := h4.there; rw [e]; exact Ne.symm (lt q)
      · obtain ⟨o, q, _⟩ := h5.there; rw [e]; exact Ne.symm (lt q)
    rw [upd_ne hne]
    exact (hf b hb).1
  done := by
    intro X hP hw hK hc i pins s σ H E I hf st hg
    subst hP hw hK
    obtain ⟨xs, ys, q1, q2, hx⟩ := hg
    obtain ⟨h1, h2, ⟨p, q, h3⟩, h4, h5⟩ := st
    obtain ⟨its, rv, p1⟩ := I.seqB q1
    obtain ⟨jts, rw', p2⟩ := I.seqB q2
    have off : ∀ {b : Bool} {a : Addr} {zs : List V}, SqB X.K b H a zs → Off z TI TO i1 i2 a := fun hq =>
      ⟨I.away (hf z (by simp)) hq, I.away (hf TO (by simp)) hq, I.away (hf i1 (by simp)) hq, I.away (hf i2 (by simp)) hq⟩
    have hT : s.TypeIs (.ref z) "zip" := ⟨_, h1, rfl⟩
    have l1 := rv.length
    have l2 := rw'.length
    unfold pyNext
    refine wpAny_bind (wpAny_attempt (wpAny_callSpecial?_slot (name := Str.ofString "__next__") hT F.slot_zip_next (wpAny_call_entry F.slot_zip_next hT F.entry_zip_next
      (zipN_end (A := X.A.in1) (I.ok.hd hc) D (off q1) (off q2) h1 h2 h3 h4 h5 p1 p2 (by simp; omega) fun g e kk he => ?_) (F.args_zip_next_1 _))))
    obtain ⟨o, ho, hcc⟩ := he
    refine wpAny_bind (wpAny_isInstance (T := "StopIteration") (b := true) ⟨o, ho, hcc⟩ isSubtype_stop ?_)
    refine wpAny_pure ⟨rfl, ?_⟩
    have k2 : ∀ b o, b ∉ [z, TO, i1, i2] → s.heap.get? b = some o → g.get? b = some o := fun b o hb q => by
      have hb' : b ≠ z ∧ b ≠ TO ∧ b ≠ i1 ∧ b ≠ i2 := by simpa using hb
      exact kk b o hb'.1 hb'.2.1 hb'.2.2.1 hb'.2.2.2 q
    exact I.turnedL0 (t' := s.toks) k2 fun b hb => hf b (by
      have hb' : b = z ∨ b = TO ∨ b = i1 ∨ b = i2 := by simpa using hb
      rcases hb' with e | e | e | e <;> simp [e])
  self := fun _ _ _ _ _ st h => wpAny_pyIter_zip st.1 h
section
variable {X : Cx} {es : List Expr} {k : Nat} {tpos : Pos}
def iZip (K : PySem.W.Frag) (ta : TA) : TI := fun σ H R => ta σ H fun vs H1 => ∃ b1 b2 a1 a2, vs = [.ref a1, .ref a2] ∧ (∃ xs, SqB K b1 H1 a1 xs) ∧ (∃ ys, SqB K b2 H1 a2 ys) ∧ R (Itz K b1 b2 a1 a2) H1
theorem pi_zip {e e' : Expr} {ta : TA} {p pos : Pos} (hg : Gl X "zip") (hm : X.mg "zip" = none) (ha : PA X [e, e'] ta) (hs : starEach [e, e'] X.env = [(false, eval e X.env), (false, eval e' X.env)] := by rfl) (hs2 : starEach [e'] X.env = [(false, eval e' X.env)] := by rfl) :
    PI X (.Tuple es k tpos) (.Call (.Name "zip" p) [e, e'] [] pos) (iZip X.K ta) := by
  intro pins s σ H R I h
  refine Call_ (ld_blt I hg hm (u := .type "zip") (by rfl) (PyProof.Rows.callWith_type1 (thn (ha pos pins s σ H _ I h) fun us s1 ⟨vs, H1, I1, r1, q1⟩ => ?_) (by rw [hs, hs2]) (by rw [hs2]; rfl)))
  obtain ⟨b1, b2, a1, a2, rfl, ⟨xs, h1⟩, ⟨ys, h2⟩, q⟩ := q1
  obtain ⟨u, u', rfl, r, r'⟩ := vals2 r1
  obtain rfl : u = Value.ref a1 := r
  obtain rfl : u' = Value.ref a2 := r'
  obtain ⟨its, rv, p1⟩ := I1.seqB h1
  obtain ⟨jts, rw', p2⟩ := I1.seqB h2
  refine call_zipN p1 p2 fun g y1 y2 y3 y4 y5 y6 => ?_
  refine wpAny_pyIter_zip y1 ?_
  have I2 : Inv X pins σ H1 { s1 with heap := g } := I1.kept (t' := s1.toks) y6
  have D : ZA (s1.heap.objs.size + 4) (s1.heap.objs.size + 2) (s1.heap.objs.size + 3) s1.heap.objs.size (s1.heap.objs.size + 1) := by
    constructor <;> (show (_ : Nat) ≠ _; omega)
  refine ⟨s1.heap.objs.size + 4, _, _, _, H1, rfl, I2, turn_zip b1 b2 a1 a2 _ _ _ _ _ D, ⟨y1, y2, ⟨_, _, y3⟩, y4, y5⟩, fun b hb => ?_, q⟩
  have hb' : b = s1.heap.objs.size + 4 ∨ b = s1.heap.objs.size + 2 ∨ b = s1.heap.objs.size + 3 ∨ b = s1.heap.objs.size ∨ b = s1.heap.objs.size + 1 := by simpa using hb
  have hle : s1.heap.objs.size ≤ b := by rcases hb' with z | z | z | z | z <;> rw [z] <;> first | exact Nat.le_add_right _ _ | exact Nat.le_refl _
  exact I1.fpOk hle (I1.hok.fresh hle)
end
end L2
set_option Elab.async false
set_option linter.all false
set_option maxRecDepth 100000
set_option maxHeartbeats 4000000
namespace L2
open PySem PySem.Spec PyProof.Rows
def closes (env : Env) : List (Str × NameKind) → List (Str × Addr) → List (Str × Addr)
  | [], cs => cs
  | (n, k) :: r, cs => closes env r (if k == .free then (match env.cells.lookup n with | some c => (n, c) :: cs | none => cs) else cs)
theorem closes_mem {env : Env} : ∀ {ns : List (Str × NameKind)} {cs : List (Str × Addr)} {x : Str} {c : Addr}, (∀ y d, (y, d) ∈ cs → env.cells.lookup y = some d) → (x, c) ∈ closes env ns cs → env.cells.lookup x = some c
  | [], _, _, _, h, m => h _ _ m
  | (n, k) :: r, cs, x, c, h, m => by
    unfold closes at m
    refine closes_mem (ns := r) (fun y d hm => ?_) m
    by_cases hk : (k == NameKind.free) = true
    · rw [if_pos hk] at hm
      cases e : env.cells.lookup n with
      | none => rw [e] at hm; exact h _ _ hm
      | some a =>
        rw [e] at hm
        rcases List.mem_cons.mp hm with q | q
        · cases q; exact e
        · exact h _ _ q
    · rw [if_neg hk] at hm; exact h _ _ hm
theorem closes_has {env : Env} : ∀ {ns : List (Str × NameKind)} {cs : List (Str × Addr)} {x : Str} {c : Addr}, (x, NameKind.free) ∈ ns ∨ (x, c) ∈ cs → env.cells.lookup x = some c → (x, c) ∈ closes env ns cs
  | [], _, _, _, h, _ => h.elim (fun z => absurd z (by simp)) id
  | (n, k) :: r, cs, x, c, h, e => by
    unfold closes
    refine closes_has (ns := r) ?_ e
    rcases h with h | h
    · rcases List.mem_cons.mp h with q | q
      · cases q
        right
        rw [if_pos (by rfl), e]
        exact List.mem_cons_self
      · exact .inl q
    · right
      by_cases hk : (k == NameKind.free) = true
      · rw [if_pos hk]
        cases env.cells.lookup n with
        | none => exact h
        | some a => exact List.mem_cons_of_mem _ h
      · rw [if_neg hk]; exact h
theorem closureFor_closes {scope : Scope} {env : Env} (h : ∀ x ∈ scope.names, x.2 = .free → ∃ c, env.cells.lookup x.1 = some c) : closureFor scope env = pure (closes env scope.names []) := by
  have all : ∀ (ns : List (Str × NameKind)) (cs : List (Str × Addr)), (∀ x ∈ ns, x.2 = .free → ∃ c, env.cells.lookup x.1 = some c) →
      (forIn ns cs fun (x : Str × NameKind) (r : List (Str × Addr)) => (if x.2 == .free then do let c ← cellOf env x.1; pure (ForInStep.yield ((x.1, c) :: r)) else pure (ForInStep.yield r) : Sem _)) = pure (closes env ns cs) := by
    intro ns
    induction ns with
    | nil => intro cs _; rfl
    | cons x r ih =>
      obtain ⟨n, k⟩ := x
      intro cs hx
      rw [List.forIn_cons]
      unfold closes
      by_cases hk : (k == NameKind.free) = true
      · have hk' : k = .free := by simpa using hk
        obtain ⟨c, e⟩ := hx (n, k) List.mem_cons_self hk'
        have e' : env.cells.lookup n = some c := e
        have e2 : cellOf env n = pure c := by unfold cellOf; rw [e']
        simp only [hk, if_true, e2, pure_bind, e']
        exact ih _ fun y hy => hx y (List.mem_cons_of_mem _ hy)
      · simp only [hk, Bool.false_eq_true, if_false, pure_bind]
        exact ih _ fun y hy => hx y (List.mem_cons_of_mem _ hy)
  have := all scope.names [] h
  simp only [closureFor]
  first
    | exact (bind_congr fun _ => rfl).trans (by rw [this, pure_bind])
    | (show (forIn scope.names [] _ >>= _) = _; rw [show (forIn scope.names ([] : List (Str × Addr)) _) = _ from this]; rfl)
    | (rw [this]; rfl)
    | exact this
theorem lookup_mem {x : Str} {c : Addr} : ∀ {cs : List (Str × Addr)}, cs.lookup x = some c → (x, c) ∈ cs := fun h => PySem.mem_of_lookup h
theorem lookup_of_mem {x : Str} {c : Addr} : ∀ {cs : List (Str × Addr)}, (x, c) ∈ cs → (∀ d, (x, d) ∈ cs → d = c) → cs.lookup x = some c
  | [], h, _ => absurd h (by simp)
  | (y, d) :: r, h, u => by
    rw [List.lookup_cons]
    cases e : x == y with
    | true =>
      have e' : x = y := by simpa using e
      subst e'
      simp only
      rw [u d List.mem_cons_self]
    | false =>
      simp only
      refine lookup_of_mem ?_ fun d' hd => u d' (List.mem_cons_of_mem _ hd)
      rcases List.mem_cons.mp h with q | q
      · cases q; simp at e
      · exact q
def blk (X : Cx) (scope : Scope) (NB : List Str) (C : Addr) (s : Shared) (H : Hp) (fp : List Addr) : Cx where
  prog := X.prog
  w := X.w
  K := X.K
  mg := X.mg
  base := X.base
  A := X.A
  N := NB
  s₀ := s
  H₀ := H
  env := compEnvC scope (closes X.env scope.names []) C X.env
  outer := X.stack
  stack := X.stack
  ex := fp
  fn := fun _ => false
  calm := X.calm
  pn := []
  xe := fun _ _ => False
def carry (fr : List (Option Nat)) (σ : St) : St := fr.map fun o => match o with | some j => (σ[j]?).getD none | none => none
def relS (scope sc : Scope) : Scope :=
  { scope with names := scope.names.map fun (n, k) => if (k == .free && sc.kind == .function && sc.names.lookup n == some .cell) then (n, .cell) else (n, k) }
structure BlkOk (sc : Scope) (N : List Str) (scope : Scope) (NB : List Str) (fr : List (Option Nat)) : Prop where
  kind : scope.kind = .function
  cell : ∀ y ∈ scope.names, y.2 ≠ .cell
  names : ∀ x ∈ scope.names, x.2 = .local → scope.names.lookup x.1 = some .local
  free : ∀ x ∈ scope.names, x.2 = .free → sc.names.lookup x.1 = some .cell ∨ sc.names.lookup x.1 = some .free
  len : NB.length = fr.length
  bind : ∀ p ∈ fr.zip NB, ∀ j ∈ p.1, N[j]? = some p.2 ∧ (p.2, NameKind.free) ∈ scope.names ∧ ((relS scope sc).names.lookup p.2 = some .cell ∨ (relS scope sc).names.lookup p.2 = some .free)
instance {sc : Scope} {N : List Str} {scope : Scope} {NB : List Str} {fr : List (Option Nat)} : Decidable (BlkOk sc N scope NB fr) :=
  decidable_of_iff ((scope.kind = .function ∧ ∀ y ∈ scope.names, y.2 ≠ .cell) ∧ ((∀ x ∈ scope.names, x.2 = .local → scope.names.lookup x.1 = some .local) ∧ ∀ x ∈ scope.names, x.2 = .free → sc.names.lookup x.1 = some .cell ∨ sc.names.lookup x.1 = some .free) ∧
    NB.length = fr.length ∧ ∀ p ∈ fr.zip NB, ∀ j ∈ p.1, N[j]? = some p.2 ∧ (p.2, NameKind.free) ∈ scope.names ∧ ((relS scope sc).names.lookup p.2 = some .cell ∨ (relS scope sc).names.lookup p.2 = some .free))
    ⟨fun ⟨⟨a, b⟩, ⟨c, d⟩, e, f⟩ => ⟨a, b, c, d, e, f⟩, fun ⟨a, b, c, d, e, f⟩ => ⟨⟨a, b⟩, ⟨c, d⟩, e, f⟩⟩
theorem lookup_relabel_free {env : Env} {x : Str} : ∀ {names : List (Str × NameKind)} {k : NameKind}, (names.map fun (n, k) => if (k == NameKind.free && env.scope.kind == .function && env.kindOf n == some .cell) then (n, NameKind.cell) else (n, k)).lookup x = some k →
    (k = .cell ∨ k = .free) → (∀ y ∈ names, y.2 ≠ .cell) → (x, NameKind.free) ∈ names
  | [], k, h, _, _ => by simp at h
  | (n, k0) :: r, k, h, hk, hc => by
    have hc' : ∀ y ∈ r, y.2 ≠ .cell := fun y hy => hc y (List.mem_cons_of_mem _ hy)
    by_cases e : (x == n) = true
    · have e' : x = n := by simpa using e
      subst e'
      by_cases hc0 : (k0 == NameKind.free && env.scope.kind == .function && env.kindOf x == some .cell) = true
      · have : k0 = .free := by
          rw [Bool.and_eq_true, Bool.and_eq_true] at hc0
          simpa using hc0.1.1
        rw [this]; exact List.mem_cons_self
      · rw [List.map_cons] at h
        simp only [hc0, if_false, Bool.false_eq_true] at h
        rw [List.lookup_cons, e] at h
        have h' : k0 = k := by simpa using h
        subst h'
        rcases hk with z | z
        · exact absurd z (hc (x, k0) List.mem_cons_self)
        · rw [z]; exact List.mem_cons_self
    · have e' : (x == n) = false := by simpa using e
      rw [List.map_cons] at h
      refine List.mem_cons_of_mem _ (lookup_relabel_free (env := env) (names := r) (k := k) ?_ hk hc')
      by_cases hc0 : (k0 == NameKind.free && env.scope.kind == .function && env.kindOf n == some .cell) = true
      · simp only [hc0, if_true] at h
        rw [List.lookup_cons, e'] at h
        exact h
      · simp only [hc0, if_false, Bool.false_eq_true] at h
        rw [List.lookup_cons, e'] at h
        exact h
section
variable {X : Cx} {pins : List (Addr × Obj)} {σ : St} {H : Hp} {s : Shared} {scope : Scope} {NB : List Str} {fr : List (Option Nat)} {fp : List Addr}
theorem BlkOk.closed (B : BlkOk X.env.scope X.N scope NB fr) (I : Inv X pins σ H s) : ∀ x ∈ scope.names, x.2 = .free → ∃ c, X.env.cells.lookup x.1 = some c := fun x hx hf => I.ok.has x.1 (B.free x hx hf)
theorem BlkOk.look (B : BlkOk X.env.scope X.N scope NB fr) (I : Inv X pins σ H s) {x : Str} (hx : (x, NameKind.free) ∈ scope.names) : ∃ c, X.env.cells.lookup x = some c ∧ (closes X.env scope.names []).lookup x = some c := by
  obtain ⟨c, e⟩ := B.closed I _ hx rfl
  refine ⟨c, e, lookup_of_mem (closes_has (.inl hx) e) fun d hd => ?_⟩
  have := closes_mem (fun _ _ z => absurd z (by simp)) hd
  rw [e] at this
  exact (Option.some.inj this).symm
theorem blk_cells {x : Str} {c : Addr} (h : (closes X.env scope.names []).lookup x = some c) : X.env.cells.lookup x = some c := closes_mem (fun _ _ z => absurd z (by simp)) (lookup_mem h)
theorem blk_start {h1 : Heap} {tk : Nat} {C : Addr} {m : Str → Option Value} (B : BlkOk X.env.scope X.N scope NB fr) (I : Inv X pins σ H s) (hf : ∀ b ∈ fp, FpOk X pins H b ∧ b < s.heap.objs.size) (hC : s.heap.objs.size ≤ C)
    (k : ∀ b o, s.heap.get? b = some o → h1.get? b = some o) (hn : h1.Ns C m) :
    Inv (blk X scope NB C s H fp) [] (carry fr σ) H { s with heap := h1, toks := tk } := by
  have hk : (relabel scope X.env).kind = .function := B.kind
  refine ⟨⟨I.ok.mod, hk, I.ok.glob, I.ok.blt, hC, fun x y c e1 e2 => I.ok.inj x y c (blk_cells e1) (blk_cells e2), fun x hx => ?_, fun x c hfn _ => absurd hfn (by simp [blk]), I.ok.hd, I.ok.frames, .inl rfl, fun b hb => ⟨?_, fun x c e => ?_⟩, I.bs, Nat.le_trans I.ok.bsz I.sz, fun b o e hb => ?_, fun b hb => ?_, I.stack, I.stkFree⟩,
    rfl, I.bare, Un.kept k, ⟨m, hn, fun i x v e1 e2 e3 => ?_⟩, fun x c e => ?_, I.hok.fresh hC, fun x c e => I.freeC x c (blk_cells e), fun p hp => absurd (show p ∈ ([] : List (Addr × Obj)) from hp) (by simp), I.hok.kept k, ?_⟩
  · have hx' : (relabel scope X.env).names.lookup x = some .cell ∨ (relabel scope X.env).names.lookup x = some .free := hx
    have hm : (x, NameKind.free) ∈ scope.names := by
      rcases hx' with z | z
      · exact lookup_relabel_free z (.inl rfl) B.cell
      · exact lookup_relabel_free z (.inr rfl) B.cell
    obtain ⟨c, _, e⟩ := B.look I hm
    exact ⟨c, e⟩
  · exact Nat.ne_of_lt (Nat.lt_of_lt_of_le (hf b hb).2 hC)
  · exact (hf b hb).1.2.2.2.2.1 x c (blk_cells e)
  · rcases (hf b hb).1.2.2.2.1 with z | z
    · exact I.ok.noex b o e z
    · exact absurd (Nat.lt_of_lt_of_le (Heap.lt_size (I.ok.bs b o e).1) z) (Nat.lt_irrefl _)
  · intro z
    rcases List.mem_cons.mp (I.stkSub b z) with q | q
    · exact (hf b hb).1.2.1 q
    · exact (hf b hb).1.2.2.1 q
  · -- a name that is closed over
    obtain ⟨mX, hnX, hlX⟩ := I.loc
    have e2' : ∃ j, fr[i]? = some (some j) ∧ σ[j]? = some (some v) := by
      unfold carry at e2
      rw [List.getElem?_map] at e2
      cases q : fr[i]? with
      | none => rw [q] at e2; cases e2
      | some o =>
        rw [q] at e2
        cases o with
        | none => simp at e2
        | some j =>
          refine ⟨j, rfl, ?_⟩
          have e2 : (σ[j]?).getD none = some v := by simpa using e2
          cases q2 : σ[j]? with
          | none => rw [q2] at e2; cases e2
          | some w => rw [q2] at e2; simp at e2; rw [e2]
    obtain ⟨j, hj, hs⟩ := e2'
    have hz : (some j, x) ∈ fr.zip NB := List.mem_of_getElem? (i := i) (by rw [List.getElem?_zip_eq_some]; exact ⟨hj, e1⟩)
    obtain ⟨hy2, hy3, kd'⟩ := B.bind _ hz j rfl
    have vis : Vis X.env.scope x := by
      rcases B.free _ hy3 rfl with z | z
      · exact .inr (.inl z)
      · exact .inr (.inr z)
    obtain ⟨u, ru, lk⟩ := hlX j x v hy2 hs vis
    refine ⟨u, ru, ?_⟩
    obtain ⟨c, ec1, ec2⟩ := B.look I hy3
    have kd : (compEnvC scope (closes X.env scope.names []) C X.env).kindOf x = some .cell ∨ (compEnvC scope (closes X.env scope.names []) C X.env).kindOf x = some .free := kd'
    refine .inr ⟨kd, c, ec2, ?_⟩
    rcases lk with ⟨q1, q2⟩ | ⟨_, c', q2, q3⟩
    · exfalso
      rcases B.free _ hy3 rfl with t | t
      · rw [show X.env.kindOf x = some .cell from t] at q1; cases q1
      · rw [show X.env.kindOf x = some .free from t] at q1; cases q1
    · rw [ec1] at q2
      cases q2
      obtain ⟨o, ho, hd⟩ := q3
      exact ⟨o, k _ _ ho, hd⟩
  · obtain ⟨v, o, ho, hd⟩ := I.cell x c (blk_cells e)
    exact ⟨v, o, k _ _ ho, hd⟩
  · unfold carry
    rw [List.length_map]
    exact B.len.symm
end
section
variable {prog : Program} {w : World} {A : Around} {E : Value → Shared → Prop} {s : Shared}
theorem comp_turns {elt tg iter : Expr} {ifs : List Expr} {scope : Scope} {pos : Pos} {it acc : Value} {env : Env} {R : Result → Shared → Prop} (J : Nat → Shared → Prop)
    (turn : ∀ n s, J n s → wpAny (model prog w) A (pyNext it) (fun r s1 => match r with
      | none => R (.ok .next) s1
      | some v => wpAny (model prog w) A (letOwnedTupleGo tg it v) (fun _ s2 => wpAny (model prog w) A (assign tg env v) (fun _ s3 =>
          wpAny (model prog w) A (forIn ifs true fun c r => if r = true then do let ok ← isTrue c env (eval c env); pure (ForInStep.yield ok) else pure (ForInStep.yield r)) (fun ok s4 =>
            if ok = true then wpAny (model prog w) A (eval elt env) (fun x s5 => wpAny (model prog w) A (call (.builtin "list.append") [acc, x]) (fun _ s6 => ∃ m, m < n ∧ J m s6) (fun _ _ => False) s5) (fun _ _ => False) s4
            else ∃ m, m < n ∧ J m s4) (fun _ _ => False) s3) (fun _ _ => False) s2) (fun _ _ => False) s1) (fun _ _ => False) s)
    (n : Nat) (h : J n s) : codeAny (model prog w) A (.compLoop (.ListComp elt [⟨tg, iter, ifs, 0⟩] scope pos) 0 it acc env) R s := by
  refine codeAny_loop rfl J (fun n s hJ => ?_) n h
  show wpAny _ A ((compTurn (.ListComp elt [⟨tg, iter, ifs, 0⟩] scope pos) 0 it acc env).onRaise _) _ _ s
  refine wpAny_noted ?_
  rw [compTurn_list]
  refine wpAny_bind (wpAny_standAt (wpAny_bind (wpAny_mono (turn n s hJ) (fun r s1 h1 => ?_) fun _ _ z => z.elim)))
  cases r with
  | none => exact wpAny_pure h1
  | some v =>
    refine wpAny_bind (wpAny_mono h1 (fun _ s2 h2 => wpAny_bind (wpAny_mono h2 (fun _ s3 h3 => wpAny_bind (wpAny_mono h3 (fun ok s4 h4 => ?_) fun _ _ z => z.elim)) fun _ _ z => z.elim)) fun _ _ z => z.elim)
    cases ok with
    | false => exact wpAny_pure ⟨rfl, h4⟩
    | true => exact wpAny_bind (wpAny_bind (wpAny_mono h4 (fun x s5 h5 => wpAny_bind (wpAny_mono h5 (fun _ s6 h6 => wpAny_pure (wpAny_pure ⟨rfl, h6⟩)) fun _ _ z => z.elim)) fun _ _ z => z.elim))
end
def Wk (σ σ2 : St) : Prop := σ2.length = σ.length ∧ ∀ (i : Nat) v, σ[i]? = some (some v) → σ2[i]? = some (some v)
def tTurns (fr : List (Option Nat)) (g : TG) (tc : TT) (te : TE) (D : Addr) (J : It) (σ : St) (H1 : Hp) (Q : VK) : Prop :=
  ∃ W : Nat → Nat → List V → Hp → Prop, (∃ m, W 0 m [] (upd H1 D (.lst []))) ∧ ∀ i m ys H, W i m ys H → H D = some (.lst ys) ∧
    ((J.stop i H ∧ Q (.ref D) H) ∨ (J.go i H ∧ ys.length < sizeLine ∧ ∃ N : List V → Hp → Prop, (∀ ys' H', N ys' H' → ∃ m', m' < m ∧ W (i + 1) m' ys' H') ∧
      ∀ x H', J.yld i H x H' → g x (carry fr σ) H' fun σ2 H2 => Wk (carry fr σ) σ2 ∧ tc σ2 H2 fun b H3 => if b = true then te σ2 H3 fun y H4 => H4 D = some (.lst ys) ∧ N (ys ++ [y]) (upd H4 D (.lst (ys ++ [y]))) else N ys H3))
def tComp (fr : List (Option Nat)) (wi : TI) (g : TG) (tc : TT) (te : TE) : TE := fun σ H Q => wi σ H fun J H1 => ∀ D, H1 D = none → tTurns fr g tc te D J σ H1 Q
def tYes : TT := fun _ H Q => Q true H
inductive PIfs (Y : Cx) : List Expr → TT → Prop where
  | nil : PIfs Y [] tYes
  | one {c : Expr} {t : TT} : PT Y c t → PIfs Y [c] t
section
variable {X : Cx} {scope : Scope} {NB : List Str} {fr : List (Option Nat)} {elt tg iter : Expr} {ifs : List Expr} {pos : Pos} {wi : TI} {g : TG} {tc : TT} {te : TE}
theorem Inv.lost {pins : List (Addr × Obj)} {σ : St} {H : Hp} {s : Shared} {h' : Heap} {C : Addr} (I : Inv X pins σ H s) (hs : Heap.SameBut C s.heap h') (f : FpOk X pins H C) : Inv X pins σ H { s with heap := h' } :=
  I.turned (t' := s.toks) (fun b o hb e => (hs.2 b hb).trans e) f.1 f.2.1 f.2.2.2.1 f.2.2.2.2.1 f.2.2.2.2.2
theorem blk_run (hcalm : X.calm = true) (B : BlkOk X.env.scope X.N scope NB fr) (hg : ∀ C s H fp, PG (blk X scope NB C s H fp) tg g) (hif : ∀ C s H fp, PIfs (blk X scope NB C s H fp) ifs tc) (he : ∀ C s H fp, PE (blk X scope NB C s H fp) elt te)
    {pins : List (Addr × Obj)} {σ : St} {Q : VK} {E : Value → Shared → Prop} {itv : Value} {s2 : Shared} (h2 : PIE X pins σ tg (fun J H1 => ∀ D, H1 D = none → tTurns fr g tc te D J σ H1 Q) itv s2)
    {RR : Value → Addr → Result → Shared → Prop}
    (hRR : ∀ D C H' s', Inv X pins σ H' s' → FpOk X pins H' C → (∃ m, s'.heap.Ns C m) → Q (.ref D) H' → RR (.ref D) C (.ok .next) s') :
    wpAny (model X.prog X.w) X.A (newList []) (fun acc s3 => wpAny (model X.prog X.w) X.A (newFunctionEnv scope X.env.globals (closes X.env scope.names []) [] X.env.qual none .none (some X.env)) (fun cenv s4 =>
      codeAny (model X.prog X.w) X.A (.compStart (.ListComp elt [⟨tg, iter, ifs, 0⟩] scope pos) 0 itv acc { cenv with scope := relabel scope X.env }) (RR acc cenv.locals) s4) E s3) E s2 := by
  obtain ⟨it, fp, tn, J, H2, rfl, I2, T, st2, f2, q2⟩ := h2
  refine wpAny_newObj_type ?_
  have hD : H2 s2.heap.objs.size = none := I2.hok.fresh (Nat.le_refl _)
  have I3 : Inv X pins σ (upd H2 s2.heap.objs.size (.lst [])) { s2 with heap := s2.heap.push { cls := .type "list", data := .seq ([] : List Value).toArray } } :=
    I2.laid (t' := s2.toks) (fun b u e => Heap.get?_push_of_some _ e) (Nat.le_refl _) ⟨by show 0 ≤ sizeLine; decide, [], 0, .nil, Heap.get?_push_size _ rfl⟩
  obtain ⟨W, ⟨m0, w0⟩, turn⟩ := q2 s2.heap.objs.size hD
  generalize hDe : s2.heap.objs.size = D at *
  generalize hH3 : upd H2 D (.lst []) = H3 at *
  generalize hg3 : s2.heap.push { cls := .type "list", data := .seq ([] : List Value).toArray } = g3 at *
  have up3 : ∀ b o, s2.heap.get? b = some o → g3.get? b = some o := fun b o e => by rw [← hg3]; exact Heap.get?_push_of_some _ e
  have sz3 : g3.objs.size = D + 1 := by rw [← hg3, Heap.size_push, hDe]
  have st3 : tn 0 g3 := T.keep _ _ _ st2 fun b _ o e => up3 b o e
  have fl : ∀ b ∈ fp, b < g3.objs.size := fun b hb => by
    obtain ⟨o, e, _⟩ := T.obj _ _ st3 b hb
    exact Heap.lt_size e
  have nD : ∀ b ∈ fp, b ≠ D := fun b hb => by
    obtain ⟨o, e, _⟩ := T.obj _ _ st2 b hb
    have := Heap.lt_size e
    rw [hDe] at this
    exact Nat.ne_of_lt this
  have f3 : ∀ b ∈ fp, FpOk X pins H3 b := fun b hb => ⟨by rw [← hH3, upd_ne (nD b hb)]; exact (f2 b hb).1, (f2 b hb).2⟩
  refine wpAny_newFunctionEnv B.cell (by intro y hy; simp at hy) (fun h1 hn1 hs1 => ?_) B.kind
  dsimp only at hn1 hs1 ⊢
  have up4 : ∀ b o, g3.get? b = some o → h1.get? b = some o := fun b o e => hs1.extBut b o (Nat.ne_of_lt (Heap.lt_size e)) (Heap.get?_push_of_some _ e)
  have st4 : tn 0 h1 := T.keep _ _ _ st3 fun b _ o e => up4 b o e
  have J0 : Inv (blk X scope NB g3.objs.size { s2 with heap := g3 } H3 fp) [] (carry fr σ) H3 { s2 with heap := h1, toks := s2.toks + ([] : List (Str × Value)).length } :=
    blk_start (s := { s2 with heap := g3 }) (fp := fp) B I3 (fun b hb => ⟨f3 b hb, fl b hb⟩) (Nat.le_refl _) up4 hn1
  have fpY : ∀ {H' : Hp}, (∀ b ∈ fp, H' b = none) → ∀ b ∈ fp, FpOk (blk X scope NB g3.objs.size { s2 with heap := g3 } H3 fp) [] H' b := fun hn b hb =>
    ⟨hn b hb, Nat.ne_of_lt (fl b hb), J0.ok.exfs b hb, .inl hb, fun x c e => (f3 b hb).2.2.2.2.1 x c (blk_cells e), fun p hp => absurd (show p ∈ ([] : List (Addr × Obj)) from hp) (by simp)⟩
  have back : ∀ {σ' : St} {H' : Hp} {s' : Shared}, Inv (blk X scope NB g3.objs.size { s2 with heap := g3 } H3 fp) [] σ' H' s' → Inv X pins σ H' s' ∧ FpOk X pins H' g3.objs.size ∧ ∃ m, s'.heap.Ns g3.objs.size m := fun {σ' H' s'} K => by
    refine ⟨I3.call' (ch := fp) K.os K.base K.hok K.bare fun b hb => ⟨(f3 b hb).2.2.2.1, (f3 b hb).2.1, (f3 b hb).2.2.2.2.1, (f3 b hb).2.2.2.2.2⟩, ?_, ?_⟩
    · exact I3.fpOk (Nat.le_refl _) K.free
    · obtain ⟨m, hm, _⟩ := K.loc
      exact ⟨m, hm⟩
  have loop : ∀ s3 : Shared, s3 = { s2 with heap := h1, toks := s2.toks + ([] : List (Str × Value)).length } →
      codeAny (model X.prog X.w) X.A (.compLoop (.ListComp elt [⟨tg, iter, ifs, 0⟩] scope pos) 0 (.ref it) (.ref D) (compEnvC scope (closes X.env scope.names []) g3.objs.size X.env)) (RR (.ref D) g3.objs.size) s3 := by
    rintro s3 rfl
    refine comp_turns (fun n s' => ∃ i ys H', Inv (blk X scope NB g3.objs.size { s2 with heap := g3 } H3 fp) [] (carry fr σ) H' s' ∧ tn i s'.heap ∧ (∀ b ∈ fp, H' b = none) ∧ W i n ys H') ?_ m0 ⟨0, [], H3, J0, st4, fun b hb => (f3 b hb).1, w0⟩
    rintro n s3 ⟨i, ys, H4, J4, st, fr4, w4⟩
    obtain ⟨hl4, alt⟩ := turn i n ys H4 w4
    rcases alt with ⟨stop, qn⟩ | ⟨go, hlen, N, hN, step⟩
    · refine thn (T.done (blk X scope NB g3.objs.size { s2 with heap := g3 } H3 fp) rfl rfl rfl hcalm i [] s3 (carry fr σ) H4 (fun _ _ => False) J4 (fpY fr4) st stop) fun r s5 ⟨hr, J5⟩ => ?_
      subst hr
      obtain ⟨K1, K2, K3⟩ := back J5
      exact hRR D g3.objs.size H4 s5 K1 K2 K3 qn
    · refine thn (T.item (blk X scope NB g3.objs.size { s2 with heap := g3 } H3 fp) rfl rfl rfl hcalm i [] s3 (carry fr σ) H4 (fun _ _ => False) J4 (fpY fr4) st go) fun r s5 ⟨u, hr, h5⟩ => ?_
      subst hr
      refine thn h5 fun _ s6 ⟨x, H6, J6, r6, y6, st6, fr6⟩ => ?_
      have J6' := J6.pinned (fpY fr6) (T.obj _ _ st6)
      refine thn (hg _ _ _ _ _ s6 (carry fr σ) H6 x u _ J6' r6 (step x H6 y6)) fun _ s7 ⟨σ7, H7, J7, wk, q7⟩ => ?_
      have again : ∀ {ys' : List V} {H8 : Hp} {s8 : Shared}, Inv (blk X scope NB g3.objs.size { s2 with heap := g3 } H3 fp) ([] ++ pinsAt fp s6.heap) σ7 H8 s8 → N ys' H8 →
          ∃ m, m < n ∧ ∃ i ys H', Inv (blk X scope NB g3.objs.size { s2 with heap := g3 } H3 fp) [] (carry fr σ) H' s8 ∧ tn i s8.heap ∧ (∀ b ∈ fp, H' b = none) ∧ W i m ys H' := fun {ys' H8 s8} J8 n8 => by
        obtain ⟨m', hm, w8⟩ := hN ys' H8 n8
        refine ⟨m', hm, i + 1, ys', H8, J8.unpinned.weak wk.1.symm wk.2, T.keep _ _ _ st6 fun b hb o e => (J8.pin (b, o) (List.mem_append_right _ (List.mem_append_right _ (mem_pinsAt hb e)))).1, fun b hb => ?_, w8⟩
        obtain ⟨o, e, d⟩ := T.obj _ _ st6 b hb
        exact (J8.pin (b, o) (List.mem_append_right _ (List.mem_append_right _ (mem_pinsAt hb e)))).2.1
      have tests : wpAny (model X.prog X.w) X.A (forIn ifs true fun c r => if r = true then do let ok ← isTrue c (compEnvC scope (closes X.env scope.names []) g3.objs.size X.env) (eval c (compEnvC scope (closes X.env scope.names []) g3.objs.size X.env)); pure (ForInStep.yield ok) else pure (ForInStep.yield r))
          (TP (blk X scope NB g3.objs.size { s2 with heap := g3 } H3 fp) ([] ++ pinsAt fp s6.heap) σ7 fun b H3' => if b = true then te σ7 H3' fun y H4' => H4' D = some (.lst ys) ∧ N (ys ++ [y]) (upd H4' D (.lst (ys ++ [y]))) else N ys H3') (fun _ _ => False) s7 := by
        generalize hif g3.objs.size { s2 with heap := g3 } H3 fp = PF
        cases PF with
        | nil => exact wpAny_tests_nil ⟨H7, J7, q7⟩
        | one hpt => exact wpAny_tests_one (hpt _ s7 σ7 H7 _ J7 q7)
      refine thn tests fun ok s8 ⟨H8, J8, q8⟩ => ?_
      cases ok with
      | false => exact again J8 q8
      | true =>
        rw [if_pos rfl]
        refine thn (he _ _ _ _ _ s8 σ7 H8 _ J8 q8) fun y s9 ⟨yv, H9, J9, r9, hD9, n9⟩ => ?_
        refine thn (mt_append (X := blk X scope NB g3.objs.size { s2 with heap := g3 } H3 fp) _ s9 σ7 H9 (.ref D) [yv] (.ref D) [y] (fun v H' => v = .non ∧ N (ys ++ [yv]) H') J9 rfl (.cons r9 .nil) ⟨D, ys, yv, rfl, rfl, hD9, hlen, rfl, n9⟩) fun _ s10 ⟨_, H10, J10, _, _, n10⟩ => ?_
        exact again J10 n10
  exact codeAny_compStart_list (loop _ rfl) (T.self _ 0 _ _ _ st4 (loop _ rfl))
theorem pe_comp {sc : Scope} {N : List Str} (hcalm : X.calm = true) (B' : BlkOk sc N scope NB fr) (hi : PI X tg iter wi) (hg : ∀ C s H fp, PG (blk X scope NB C s H fp) tg g) (hif : ∀ C s H fp, PIfs (blk X scope NB C s H fp) ifs tc) (he : ∀ C s H fp, PE (blk X scope NB C s H fp) elt te)
    (hs : ∀ x, foldedSetIterable iter X.env x = pure x := by intro _; rfl) (hsc : X.env.scope = sc := by rfl) (hNN : X.N = N := by rfl) : PE X (.ListComp elt [⟨tg, iter, ifs, 0⟩] scope pos) (tComp fr wi g tc te) := by
  have B : BlkOk X.env.scope X.N scope NB fr := by rw [hsc, hNN]; exact B'
  intro pins s σ H Q I h
  rw [eval_ListComp]
  refine wpAny_comprehension_free (use := none) rfl hs (closureFor_closes (B.closed I)) B.kind B.names (thn (hi pins s σ H _ I h) fun v s1 h1 => thn h1 fun itv s2 h2 => ?_)
  refine blk_run hcalm B hg hif he h2 (RR := fun acc C => compPost (model X.prog X.w) X.A X.xe none (EP X pins σ Q) acc C) fun D C H' s' I' f ⟨m, hm⟩ q => ?_
  exact ⟨m, hm, fun h'' hs'' => ⟨.ref D, H', I'.lost hs'' f, rfl, q⟩⟩
theorem ps_comp {sc : Scope} {N : List Str} {i : Nat} {x : Str} {px spos : Pos} (hN : X.N.Nodup) (hix : X.N[i]? = some x) (hx : X.env.scope.names.lookup x = some .local) (hcalm : X.calm = true) (B' : BlkOk sc N scope NB fr) (hi : PI X tg iter wi)
    (hg : ∀ C s H fp, PG (blk X scope NB C s H fp) tg g) (hif : ∀ C s H fp, PIfs (blk X scope NB C s H fp) ifs tc) (he : ∀ C s H fp, PE (blk X scope NB C s H fp) elt te)
    (hsw : swapsWith (.ListComp elt [⟨tg, iter, ifs, 0⟩] scope pos) (some (.Name x px)) spos.line X.env = pure true := by rfl)
    (hs : ∀ x, foldedSetIterable iter X.env x = pure x := by intro _; rfl) (hsc : X.env.scope = sc := by rfl) (hNN : X.N = N := by rfl) : PS X (.Assign [.Name x px] (.ListComp elt [⟨tg, iter, ifs, 0⟩] scope pos) spos) (tAsg (tComp fr wi g tc te) (gName i)) := by
  have B : BlkOk X.env.scope X.N scope NB fr := by rw [hsc, hNN]; exact B'
  intro pins s σ H D I h
  rw [exec_Assign_Name_used _ _ _ _ hsw]
  refine wpAny_bind (wpAny_standAt (wpAny_bind ?_))
  show wpAny _ _ (do let _ ← comprehension (.ListComp elt [⟨tg, iter, ifs, 0⟩] scope pos) scope X.env _ (newList []) false (eval iter X.env) (some (assign (.Name x px) X.env))) _ _ s
  refine wpAny_bind (wpAny_mono (wpAny_comprehension_free (use := some (assign (.Name x px) X.env)) (Q := fun _ s' => SP X pins D .next s') rfl hs (closureFor_closes (B.closed I)) B.kind B.names
    (thn (hi pins s σ H _ I h) fun v s1 h1 => thn h1 fun itv s2 h2 => ?_)) (fun _ s' hq => wpAny_pure (wpAny_pure hq)) fun _ _ z => z)
  refine blk_run hcalm B hg hif he h2 (RR := fun acc C => compPost (model X.prog X.w) X.A X.xe (some (assign (.Name x px) X.env)) (fun _ s' => SP X pins D .next s') acc C) fun Dl C H' s' I' f ⟨m, hm⟩ q => ?_
  show wpAny _ _ (assign (.Name x px) X.env (.ref Dl)) _ _ _
  refine wpAny_assign_Name (store_ok2 I' hN hix (.inl hx) (v := .ref Dl) rfl (fun s3 I3 ⟨a, hs3, ha⟩ => ?_) (.inr hx))
  have ne : C ≠ a := by
    rcases ha with e | e
    · rw [e]; exact f.2.1
    · exact fun z => f.2.2.2.2.1 x a e z.symm
  exact ⟨m, hm.sameBut hs3 ne, fun h'' hs'' => ⟨_, H', I3.lost hs'' f, q⟩⟩
end
end L2
set_option Elab.async false
set_option linter.all false
set_option maxRecDepth 100000
set_option maxHeartbeats 4000000
namespace L2
open PySem PySem.Spec PyProof.Rows
structure Cal (P : Program) (w : World) (K : PySem.W.Frag) (mg : Str → Option Value) (base : Heap) (k : Nat) (x : Str) (ps : List Str) (sp : Sp) : Prop where
  ex : ∃ f fd, FnOk P w K mg base CX0 k f fd ps sp ∧ mg x = some (.ref f) ∧ PySem.W.keepIn K (.ref f) = true ∧ Binds K fd ps []
section
variable {X : Cx} {k : Nat} {x : Str} {ps : List Str} {sp : Sp} {p pos : Pos} {e : Expr} {es : List Expr} {t : TA}
theorem pe_cal (C : Cal X.prog X.w X.K X.mg X.base k x ps sp) (hr : Room k X.A) (hg : Gl X x) (ha : PA X (e :: es) t) (hdb : (x == ("__debug__" : Str)) = false := by decide)
    (he : starEach (e :: es) X.env = (false, eval e X.env) :: starEach es X.env := by rfl) (hpl : (backTo pos (starEach es X.env)).any (·.1) = false := by rfl) : PE X (.Call (.Name x p) (e :: es) [] pos) (tCall sp [] E0 t) := by
  obtain ⟨f, fd, G, m, kk, b⟩ := C.ex
  exact pe_call G hr hg m kk b .nil pass0 ha hdb he hpl
end
structure Txt (BN : List Str) (mg : Str → Option Value) : Prop where
  nb : ∀ x ∈ BN, mg x = none
def CDivP (_ j : Int) : Prop := 0 < j ∧ Bits 9000 j
section
variable {X : Cx}
theorem op_fdivP : OpR X (binaryOp .FloorDiv) (rI CDivP fun i j => .int (i / j)) := opI fun i j _ _ _ _ _ hc q => by
  have h1 : (0 : Int) < j := hc.1
  exact floordiv_int (by omega) (by rw [Int.fdiv_eq_ediv_of_nonneg i (by omega)]; exact q) (.inl (PyProof.noPylong_of_log2 (hc.2.log2 (by decide))))
def clsV : V → Option Value
  | .ty n => some (.type n)
  | .ref C => some (.ref C)
  | _ => none
theorem clsV_rel {c : V} {u cv : Value} (h : clsV c = some cv) (r : RelV c u) : u = cv := by
  cases c with
  | ty n => cases h; exact r
  | ref C => cases h; exact r
  | _ => cases h
theorem pe_ty {BN : List Str} {pos : Pos} (T : Txt BN X.mg) (n : String) (hg : Gl X (Str.ofString n) := by rfl) (hn : Str.ofString n ∈ BN := by decide) (hv : bootBuiltins (Str.ofString n) = some (.type n) := by decide +kernel)
    (h1 : Str.ofString n ≠ "__name__" := by decide) (h2 : (Str.ofString n == ("__debug__" : Str)) = false := by decide) : PE X (.Name (Str.ofString n) pos) (tC (.ty n)) := pe_bltn hg (T.nb _ hn) hv rfl h1 h2
end
theorem Same.new {H : Hp} {p : Addr} (h : H p = none) (o : HO) : Same H (upd H p o) := fun b u q => by rw [upd_ne (ne_of_none q h)]; exact q
theorem Same.seqT {K : PySem.W.Frag} {H H' : Hp} {a : Addr} {xs : List V} (e : Same H H') (h : SqT K H a xs) : SqT K H' a xs := by
  rcases h with (h | ⟨o, h⟩) | h
  · exact .inl (.inl (e _ _ h))
  · exact .inl (.inr ⟨o, e _ _ h⟩)
  · exact .inr h
theorem Same.seqB {K : PySem.W.Frag} {b : Bool} {H H' : Hp} {a : Addr} {xs : List V} (e : Same H H') (h : SqB K b H a xs) : SqB K b H' a xs := by
  cases b
  · exact e.seq h
  · exact e.seqT h
section
variable {X : Cx} {K : PySem.W.Frag} {pos : Pos}
theorem pg_tupK {es : List Expr} {k : Nat} {t : TGs} {n : Nat} (hK : X.K = K) (hc : X.calm = true) (h : PGs X es t)
    (hn : (assignEach es X.env).length = n := by rfl) (hst : (assignEach es X.env).findIdx? (·.1) = none := by rfl) : PG X (.Tuple es k pos) (gTup K n t) := by subst hK; exact pg_tup hc h hn hst
theorem sl_listK (hK : X.K = K) : SlR X (rSlL K) := by subst hK; exact sl_list
theorem call_lenK (hK : X.K = K) : CallR X (.builtin "len") (fun xs H Q => ∃ p ys, xs = [.ref p] ∧ (SqL K H p ys ∨ SqT K H p ys) ∧ Q (.int ys.length) H) := by subst hK; exact call_len_seq
theorem call_listK (hK : X.K = K) : CallR X (.type "list") (fun xs H Q => ∃ p ys, xs = [.ref p] ∧ (SqL K H p ys ∨ SqT K H p ys) ∧ ∀ l, H l = none → Q (.ref l) (upd H l (.lst ys))) := by subst hK; exact call_list_of
end
theorem comp_seq {J : It} {n : Nat} {fr : List (Option Nat)} {g : TG} {tc : TT} {te : TE} {D : Addr} {σ : St} {H1 : Hp} {Q : VK} (Pv : Nat → List V → Hp → Prop) (h0 : Pv 0 [] (upd H1 D (.lst [])))
    (hD : ∀ i ys H, i ≤ n → Pv i ys H → H D = some (.lst ys) ∧ ys.length ≤ i) (hgo : ∀ i ys H, i < n → Pv i ys H → J.go i H) (hstop : ∀ ys H, Pv n ys H → J.stop n H) (hn : n ≤ sizeLine)
    (hs : ∀ i ys H x H', i < n → Pv i ys H → J.yld i H x H' → g x (carry fr σ) H' fun σ2 H2 => Wk (carry fr σ) σ2 ∧ tc σ2 H2 fun b H3 => if b = true then te σ2 H3 fun y H4 => H4 D = some (.lst ys) ∧ Pv (i + 1) (ys ++ [y]) (upd H4 D (.lst (ys ++ [y]))) else Pv (i + 1) ys H3)
    (hd : ∀ ys H, Pv n ys H → Q (.ref D) H) : tTurns fr g tc te D J σ H1 Q := by
  refine ⟨fun i m ys H => m = n - i ∧ i ≤ n ∧ Pv i ys H, ⟨n, by simp, Nat.zero_le _, h0⟩, ?_⟩
  rintro i m ys H ⟨rfl, hi, p⟩
  obtain ⟨q, hl⟩ := hD i ys H hi p
  refine ⟨q, ?_⟩
  by_cases hlt : i < n
  · exact .inr ⟨hgo i ys H hlt p, by omega, Pv (i + 1), fun ys' H' p' => ⟨n - (i + 1), by omega, rfl, hlt, p'⟩, fun x H' y => hs i ys H x H' hlt p y⟩
  · have e : i = n := by omega
    subst e
    exact .inl ⟨hstop ys H p, hd ys H p⟩
theorem comp_list {K : PySem.W.Frag} {a : Addr} {xs : List V} {fr : List (Option Nat)} {g : TG} {tc : TT} {te : TE} {D : Addr} {σ : St} {H1 : Hp} {Q : VK} (Pv : Nat → List V → Hp → Prop) (h0 : Pv 0 [] (upd H1 D (.lst [])))
    (hD : ∀ i ys H, i ≤ xs.length → Pv i ys H → H D = some (.lst ys) ∧ ys.length ≤ i) (hl : ∀ i ys H, i ≤ xs.length → Pv i ys H → SqL K H a xs) (hn : xs.length ≤ sizeLine)
    (hs : ∀ i x ys H, xs[i]? = some x → Pv i ys H → g x (carry fr σ) H fun σ2 H2 => Wk (carry fr σ) σ2 ∧ tc σ2 H2 fun b H3 => if b = true then te σ2 H3 fun y H4 => H4 D = some (.lst ys) ∧ Pv (i + 1) (ys ++ [y]) (upd H4 D (.lst (ys ++ [y]))) else Pv (i + 1) ys H3)
    (hd : ∀ ys H, Pv xs.length ys H → Q (.ref D) H) : tTurns fr g tc te D (Itl K a) σ H1 Q := by
  refine comp_seq (n := xs.length) Pv h0 hD (fun i ys H hi p => ⟨xs, xs[i], hl i ys H (Nat.le_of_lt hi) p, by simp [hi]⟩) (fun ys H p => ⟨xs, hl _ ys H (Nat.le_refl _) p, Nat.le_refl _⟩) hn (fun i ys H x H' hi p y => ?_) hd
  obtain ⟨e, y⟩ := y
  subst e
  exact hs i x ys _ (y xs (hl i ys _ (Nat.le_of_lt hi) p)) p
theorem comp_zip {K : PySem.W.Frag} {b1 b2 : Bool} {a1 a2 : Addr} {us vs : List V} {fr : List (Option Nat)} {g : TG} {tc : TT} {te : TE} {D : Addr} {σ : St} {H1 : Hp} {Q : VK} (Pv : Nat → List V → Hp → Prop) (h0 : Pv 0 [] (upd H1 D (.lst [])))
    (hD : ∀ i ys H, i ≤ min us.length vs.length → Pv i ys H → H D = some (.lst ys) ∧ ys.length ≤ i) (hl : ∀ i ys H, i ≤ min us.length vs.length → Pv i ys H → SqB K b1 H a1 us ∧ SqB K b2 H a2 vs) (hn : us.length ≤ sizeLine)
    (hs : ∀ i x y T ys H, us[i]? = some x → vs[i]? = some y → H T = none → Pv i ys H → g (.ref T) (carry fr σ) (upd H T (.tup [x, y])) fun σ2 H2 => Wk (carry fr σ) σ2 ∧ tc σ2 H2 fun b H3 => if b = true then te σ2 H3 fun y H4 => H4 D = some (.lst ys) ∧ Pv (i + 1) (ys ++ [y]) (upd H4 D (.lst (ys ++ [y]))) else Pv (i + 1) ys H3)
    (hd : ∀ ys H, Pv (min us.length vs.length) ys H → Q (.ref D) H) : tTurns fr g tc te D (Itz K b1 b2 a1 a2) σ H1 Q := by
  refine comp_seq (n := min us.length vs.length) Pv h0 hD (fun i ys H hi p => ?_) (fun ys H p => ?_) (by omega) (fun i ys H x H' hi p y => ?_) hd
  · obtain ⟨h1, h2⟩ := hl i ys H (Nat.le_of_lt hi) p
    have e1 : i < us.length := by omega
    have e2 : i < vs.length := by omega
    exact ⟨us, vs, us[i], vs[i], h1, h2, by simp [e1], by simp [e2]⟩
  · obtain ⟨h1, h2⟩ := hl _ ys H (Nat.le_refl _) p
    exact ⟨us, vs, h1, h2, by omega⟩
  · obtain ⟨h1, h2⟩ := hl i ys H (Nat.le_of_lt hi) p
    obtain ⟨T, v, u, e1, e2, e3, y1, y2⟩ := y
    subst e1 e3
    exact hs i v u T ys _ (y1 us h1) (y2 vs h2) e2 p
theorem Same.upd_old {H H' : Hp} {D : Addr} {o : HO} (e : Same H H') (h : H D = none) : Same H (upd H' D o) := fun b u q => by
  rw [upd_ne (fun z => by rw [z, h] at q; cases q)]; exact e b u q
end L2
set_option Elab.async false
set_option linter.all false
set_option maxRecDepth 100000
set_option maxHeartbeats 4000000
namespace L2
open PySem PySem.Spec PyProof.Rows
def CXE (P : Program) (w : World) : CXT := fun outer H s E ev s' =>
  ∃ (e C : Addr) (a0 : Value) (B : Heap) (H' : Hp), ev = .ref e ∧ s'.os = s.os ∧ AllBare s'.gens ∧ Un (frs outer) [] H H' s.heap s'.heap ∧ HOk P w H' s'.heap ∧
    Heap.FlyingW B outer e (.ref C) a0 s'.heap ∧ (∀ b u, H' b = some u → ∃ o, B.get? b = some o) ∧ (∀ b o, s.heap.get? b = some o → b ∉ frs outer → ∃ o', B.get? b = some o') ∧ s.heap.get? e = none ∧ E (.ref C) none H'
theorem hok_there {P : Program} {w : World} {H : Hp} {h : Heap} {a : Addr} {o : HO} (x : ObjOk P w H h a o) : ∃ ob, h.get? a = some ob := by
  cases o with
  | lst xs => obtain ⟨_, _, _, _, e⟩ := x; exact ⟨_, e⟩
  | tup xs => obtain ⟨_, _, _, o, e, _⟩ := x; exact ⟨o, e⟩
  | dK kvs => obtain ⟨_, _, _, _, o, _, _, e, _⟩ := x; exact ⟨o, e⟩
  | dT kvs => obtain ⟨_, _, _, _, o, _, _, e, _⟩ := x; exact ⟨o, e⟩
  | set S n => obtain ⟨o, _, _, _, e, _⟩ := x; exact ⟨o, e⟩
  | ins C dx fs => obtain ⟨_, _, _, e, _⟩ := x; exact ⟨_, e⟩
  | own y => obtain ⟨o, e⟩ := x; exact ⟨o, e⟩
  | xd fs => obtain ⟨_, ⟨o, _, _, e, _⟩, _⟩ := x; exact ⟨o, e⟩
  | rng lo hi => obtain ⟨_, _, _, e⟩ := x; exact ⟨_, e⟩
  | frz ob u => obtain ⟨e, _⟩ := x; exact ⟨_, e⟩
  | tbl ps => exact ⟨_, (show h.get? a = some _ from x)⟩
  | met f y => exact ⟨_, (show h.get? a = some _ from x)⟩
  | ext φ => obtain ⟨_, e, _⟩ := x; exact e
theorem no_fs {b : Addr} : b ∉ ([] : List Addr) := by simp
section
variable {X : Cx} {pins : List (Addr × Obj)} {σ : St} {H : Hp} {s : Shared} {g h' B : Heap} {e C : Addr} {a0 : Value} {E : XK}
theorem stay_by (hs : B.StaysIn g) (hs' : B.StaysIn h') {b : Addr} {o o' : Obj} (hb : B.get? b = some o') (hg : g.get? b = some o) : h'.get? b = some o := by
  have q := hs b o' hb
  rw [hg] at q
  cases q
  exact hs' b o hb
theorem hok_by {P : Program} {w : World} (hok : HOk P w H g) (hs : B.StaysIn g) (hs' : B.StaysIn h') (hT : ∀ b u, H b = some u → ∃ o, B.get? b = some o) : HOk P w H h' := fun b u q =>
  (hok b u q).stay (fun c v hc r => by
    have ⟨o', z⟩ : ∃ o', B.get? c = some o' := by
      rcases hc with z | z
      · rw [z]; exact hT b u q
      · exact hT c _ z
    exact stay_by hs hs' z r) (fun _ r => r) fun _ _ r => r
theorem leave_fin (I : Inv X pins σ H s) (hex : X.ex = []) (gk : ∀ b o, s.heap.get? b = some o → g.get? b = some o) (fl : Heap.FlyingW B X.outer e (.ref C) a0 h') (up : g.UpToSlots h')
    (hB : ∀ b o, X.s₀.heap.get? b = some o → b ∉ frs X.outer → ∃ o', B.get? b = some o') (hT : ∀ b u, H b = some u → ∃ o, B.get? b = some o) (hs : B.StaysIn g) (he : X.s₀.heap.get? e = none) (hE : E (.ref C) none H) :
    CXE X.prog X.w X.outer X.H₀ X.s₀ E (.ref e) { s with heap := h' } := by
  have nx : ∀ b, b ∉ X.ex := fun b z => by rw [hex] at z; exact absurd z (by simp)
  have sl : ∀ b, b ∈ frs X.outer → ∃ o o', X.s₀.heap.get? b = some o ∧ h'.get? b = some o' ∧ (∀ o2, X.s₀.heap.get? b = some o2 → ∃ sl, o' = { o2 with slots := sl }) := fun b hb => by
    obtain ⟨_, o, ho, hd⟩ := I.ok.funs.mem hb
    obtain ⟨s1, e1⟩ := I.base.slot b o ho (I.ok.frf b hb) hb (nx b)
    obtain ⟨s2, e2⟩ := up b _ (gk b _ e1) hd
    exact ⟨o, _, ho, e2, fun o2 q => by rw [ho] at q; cases q; exact ⟨s2, rfl⟩⟩
  have gfl : HOk X.prog X.w H g := I.hok.kept gk
  refine ⟨e, C, a0, B, H, rfl, I.os, I.bare, ⟨fun b o q n hb _ => ?_, fun b o q n hb _ => ?_, fun b o q n _ => I.base.free b o q n (nx b), fun b o q _ => ?_, I.base.tups, I.base.frzs, I.base.tbls⟩, hok_by gfl hs fl.1 hT, fl, hT, hB, he, hE⟩
  · obtain ⟨o', z⟩ := hB b o q hb
    exact stay_by hs fl.1 z (gk b o (I.base.keep b o q n hb (nx b)))
  · obtain ⟨_, o', _, z, r⟩ := sl b hb
    obtain ⟨s2, r⟩ := r o q
    exact ⟨s2, by rw [z, r]⟩
  · by_cases hb : b ∈ frs X.outer
    · obtain ⟨_, o', _, z, _⟩ := sl b hb
      exact ⟨o', z⟩
    · obtain ⟨o', z⟩ := hB b o q hb
      exact ⟨o', fl.1 b o' z⟩
theorem Inv.older (I : Inv X pins σ H s) {b : Addr} {o : Obj} (q : X.s₀.heap.get? b = some o) (hb : b ∉ frs X.outer) : b ∉ frs X.stack := fun z => by
  rcases List.mem_cons.mp (I.stkSub b z) with r | r
  · rw [r] at q; exact absurd (Nat.lt_of_lt_of_le (Heap.lt_size q) I.ok.above) (Nat.lt_irrefl _)
  · exact hb r
end
section
variable {P : Program} {w : World} {K : PySem.W.Frag} {mg : Str → Option Value} {base : Heap} {N : List Str} {qual : Str} {scope : Scope} {f : Addr} {cd : Value} {A : Around} {outer : List Env} {s₀ : Shared} {H₀ : Hp} {E : XK}
theorem raise_out {pins : List (Addr × Obj)} {σ : St} {H : Hp} {s : Shared} {h1 : Heap} {e C : Addr} {args : List Value} (I : Inv (cxOf (CXE P w) P w K mg base N qual scope f cd A outer s₀ H₀ E) pins σ H s) (hx : Heap.MadeExcOf s.heap h1 e (.ref C) args) (hE : E (.ref C) none H) :
    (cxOf (CXE P w) P w K mg base N qual scope f cd A outer s₀ H₀ E).xe (.ref e) { s with heap := h1 } := by
  have hin : ∀ env ∈ (envOfC qual scope s₀.heap.objs.size f cd :: outer), ∀ b, env.frame = some b → b ∈ frs (envOfC qual scope s₀.heap.objs.size f cd :: outer) := fun env he b hb => List.mem_filterMap.mpr ⟨env, he, hb⟩
  have hg : ∀ b o, s.heap.get? b = some o → b ∉ frs (envOfC qual scope s₀.heap.objs.size f cd :: outer) → (PySem.W.hideAll s.heap (frs (envOfC qual scope s₀.heap.objs.size f cd :: outer))).get? b = some o := fun b o q hb => PySem.W.hideAll_get _ q hb
  show wpAny _ _ («leaving» (envOfC qual scope s₀.heap.objs.size f cd) (.ref e)) _ _ _
  refine wpAny_leaves_madeW (base := PySem.W.hideAll s.heap (frs (envOfC qual scope s₀.heap.objs.size f cd :: outer))) (h := s.heap) I.ok.frames rfl (fun b o q => PySem.W.of_hideAll _ q) (PySem.W.funFrames_hide I.stack hin) hx fun h' t fl _ _ up => ?_
  refine leave_fin (g := h1) I rfl hx.keeps fl up (fun b o q hb => ?_) (fun b u q => ?_) (fun b o q => hx.keeps b o (PySem.W.of_hideAll _ q)) ?_ hE
  · obtain ⟨o', z⟩ := I.base.there b o q no_fs
    exact ⟨o', hg b o' z (I.older q hb)⟩
  · obtain ⟨o, z⟩ := hok_there (I.hok b u q)
    exact ⟨o, hg b o z fun hb => by rw [I.stkFree b hb] at q; cases q⟩
  · cases q : s₀.heap.get? e with
    | none => exact q
    | some o =>
      obtain ⟨o', z⟩ := I.base.there e o q no_fs
      rw [hx.new] at z; cases z
theorem pass_out : Passes (CXE P w) (cxOf (CXE P w) P w K mg base N qual scope f cd A outer s₀ H₀ E) E := fun pins σ H s ev s' I h => by
  obtain ⟨e, C, a0, B, H', rfl, os, bare, un, hok, fl, hT, hB, he, hE⟩ := h
  have I' := I.call' os un hok bare (fun b z => absurd z (by simp))
  show wpAny _ _ («leaving» (envOfC qual scope s₀.heap.objs.size f cd) (.ref e)) _ _ _
  refine wpAny_leaves_onW I.ok.frames rfl fl fun h' fl' up => ?_
  refine leave_fin (g := s'.heap) I' rfl (fun _ _ q => q) fl' up (fun b o q hb => ?_) hT fl.1 ?_ hE
  · obtain ⟨o', z⟩ := I.base.there b o q no_fs
    exact hB b o' z (I.older q hb)
  · cases q : s₀.heap.get? e with
    | none => exact q
    | some o =>
      obtain ⟨o', z⟩ := I.base.there e o q no_fs
      rw [he] at z; cases z
end
end L2
set_option Elab.async false
set_option linter.all false
set_option maxRecDepth 100000
set_option maxHeartbeats 4000000
namespace L2
open PySem PySem.Spec PyProof.Rows
def PassG (CX : CXT) (X : Cx) (G : St → XK) : Prop := ∀ (pins : List (Addr × Obj)) (σ : St) (H : Hp) (s : Shared) (e : Value) (s' : Shared), Inv X pins σ H s → CX X.stack H s (G σ) e s' → X.xe e s'
def tCallG (sp : Sp) (dvs : List V) (G : St → XK) (t : TA) : TE := fun σ H Q => t σ H fun vs H1 => sp (vs ++ dvs) H1 Q (G σ)
structure CalX (P : Program) (w : World) (K : PySem.W.Frag) (mg : Str → Option Value) (base : Heap) (k : Nat) (x : Str) (ps : List Str) (sp : Sp) : Prop where
  ex : ∃ f fd, FnOk P w K mg base (CXE P w) k f fd ps sp ∧ mg x = some (.ref f) ∧ PySem.W.keepIn K (.ref f) = true ∧ Binds K fd ps []
section
variable {X : Cx} {CX : CXT} {k : Nat} {f : Addr} {fd : FuncData} {ps : List Str} {sp : Sp} {dvs : List V} {ds : List Value} {G : St → XK} {x : Str} {p pos : Pos} {e : Expr} {es : List Expr} {t : TA}
theorem run_fnG {pins : List (Addr × Obj)} {σ : St} {H : Hp} {s : Shared} {Q : VK} {us : List Value} {vs : List V} (F : FnOk X.prog X.w X.K X.mg X.base CX k f fd ps sp) (hr : Room k X.A) (hb : Binds X.K fd ps ds) (hd : Vals dvs ds) (hx : PassG CX X G)
    (I : Inv X pins σ H s) (r : Vals vs us) (h : sp (vs ++ dvs) H Q (G σ)) : wpAny (model X.prog X.w) X.A (call (.ref f) us) (EP X pins σ Q) X.xe s := by
  have r2 : Vals (vs ++ dvs) (us ++ ds) := r.append hd
  have hl : (us ++ ds).length = ps.length := by rw [← r2.length]; exact F.len _ _ _ _ h
  refine wpAny_call (codeAny_mono (F.run X.A X.stack s H ⟨us, []⟩ (us ++ ds) (vs ++ dvs) Q (G σ) hr I.env0 (hb s us I.kIn hl) r2 h) fun r s' hq => ?_)
  cases r with
  | error e => exact hx pins σ H s e s' I hq
  | ok fl =>
    cases fl with
    | ret u => exact I.after hq
    | next => exact False.elim hq
    | brk => exact False.elim hq
    | cont => exact False.elim hq
theorem pe_calG (C : CalX X.prog X.w X.K X.mg X.base k x ps sp) (hr : Room k X.A) (hg : Gl X x) (hx : PassG (CXE X.prog X.w) X G) (ha : PA X (e :: es) t) (hdb : (x == ("__debug__" : Str)) = false := by decide)
    (he : starEach (e :: es) X.env = (false, eval e X.env) :: starEach es X.env := by rfl) (hpl : (backTo pos (starEach es X.env)).any (·.1) = false := by rfl) : PE X (.Call (.Name x p) (e :: es) [] pos) (tCallG sp [] G t) := by
  obtain ⟨f, fd, F, m, kk, b⟩ := C.ex
  intro pins s σ H Q I h
  refine wpAny_Call_Name_kw (ld_glob I hg m ?_ hdb)
  refine PySem.W.callWith_K (h₀ := X.base) I.ok.mod.kin kk (thn (ha pos pins s σ H _ I h) fun us s1 ⟨vs, H1, I1, r, q⟩ => ⟨I1.kIn, ?_⟩) he hpl
  exact run_fnG F hr b .nil hx I1 r q
end
structure ExcC (K : PySem.W.Frag) (C : Addr) : Prop where
  ok : PySem.W.excIn K C [.type "ValueError", .type "Exception", .type "BaseException", .type "object"] "ValueError.__new__" = true
theorem ExcC.obj {K : PySem.W.Frag} {C : Addr} {h : Heap} (q : ExcC K C) (X : K.In h) : ∃ (bm : List Value) (N : Addr) (nm qn : Str) (bs : List Value) (hd : Bool) (sn : List Str) (sub : List Value) (ab : Bool) (col : Option Bool) (dd : Option Addr) (k0 k1 k2 k3 k5 : Option Value) (mN : Str → Option Value),
    h.get? C = some (excClassObj nm qn C N bs bm hd sn sub ab col dd k0 k1 k2 k3 k5 "ValueError.__new__") ∧ h.Ns N mN ∧ mN "__init__" = none ∧ OwnTail h [.type "ValueError", .type "Exception", .type "BaseException", .type "object"] bm := by
  have q := q.ok
  unfold PySem.W.excIn at q
  split at q
  · rename_i dd cd sl ho
    split at q
    · rename_i C' bm k0 k1 k2 k3 n k5 hm hs
      simp only [Bool.and_eq_true, beq_iff_eq, Bool.not_eq_true'] at q
      obtain ⟨⟨⟨⟨⟨rfl, rfl⟩, hdel⟩, ht⟩, hok⟩, hni⟩ := q
      obtain ⟨nm, bs, mro, ns, qn, hd, sn, sub, ab, col, del⟩ := cd
      dsimp only at hm hdel hok hni
      subst hm hdel
      have hsl : sl = #[k0, k1, k2, k3, some (.builtin "ValueError.__new__"), k5] := by
        obtain ⟨l⟩ := sl
        simp only at hs
        rw [hs]
      subst hsl
      exact ⟨bm, ns, nm, qn, bs, hd, sn, sub, ab, col, dd, k0, k1, k2, k3, k5, _, X _ _ ho, .of_isNs (PySem.W.isNs_of_in X hok), PySem.W.nsMap_none_of_in X hok hni, PySem.W.tail_of_in X ht⟩
    · cases q
  · cases q
def tRaise (C : Addr) (G : St → XK) (t : TA) : TS := fun _ σ H => t σ H fun vs H1 => vs.length ≤ sizeLine ∧ G σ (.ref C) none H1
def RaiseG (X : Cx) (G : St → XK) : Prop := ∀ (pins : List (Addr × Obj)) (σ : St) (H : Hp) (s : Shared) (h1 : Heap) (e C : Addr) (args : List Value), Inv X pins σ H s → Heap.MadeExcOf s.heap h1 e (.ref C) args → G σ (.ref C) none H → X.xe (.ref e) { s with heap := h1 }
section
variable {X : Cx} {C : Addr} {G : St → XK} {x : Str} {np cpos pos : Pos} {e : Expr} {es : List Expr} {t : TA}
theorem ps_raise (hc : X.calm = true) (q : ExcC X.K C) (hg : Gl X x) (hm : X.mg x = some (.ref C)) (hx : RaiseG X G) (ha : PA X (e :: es) t)
    (he : starEach (e :: es) X.env = (false, eval e X.env) :: starEach es X.env := by rfl) (hpl : (backTo cpos (starEach es X.env)).any (·.1) = false := by rfl) (hdb : (x == ("__debug__" : Str)) = false := by decide) :
    PS X (.Raise (some (.Call (.Name x np) (e :: es) [] cpos)) none pos) (tRaise C G t) := by
  intro pins s σ H D I h
  have hpl' : (backTo cpos (starEach (e :: es) X.env)).any (·.1) = false := by
    rw [he]
    show ((false || (backTo cpos (starEach es X.env)).any (·.1))) = false
    rw [hpl]; rfl
  obtain ⟨bm, N, nm, qn, bs, hd, sn, sub, ab, col, dd, k0, k1, k2, k3, k5, mN, hC, hN, hni, TL⟩ := q.obj I.mod.kin
  refine wpAny_Raise_call_subU (C := C) (N := N) (nm := nm) (q := qn) (bs := bs) (bm := bm) (hdct := hd) (sn := sn) (sub := sub) (ab := ab) (col := col) (dd := dd) (k0 := k0) (k1 := k1) (k2 := k2) (k3 := k3) (k5 := k5) (mN := mN)
    PySem.F.excBase_ValueError (by decide +kernel) PySem.F.excBase_ValueError (TL.hasType (by decide +kernel)) (I.ok.hd hc) hpl' hni (ld_glob I hg hm ⟨rfl, ?_⟩ hdb)
  have pa := ha cpos pins s σ H _ I h
  rw [he] at pa ⊢
  show wpAny _ _ (evalArgs (.ref C) true ((false, eval e X.env) :: backTo cpos (starEach es X.env)) []) _ _ _
  refine Calls.evalArgs_plain (thn pa fun us s1 ⟨vs, H1, I1, r1, z, q1⟩ => ⟨rfl, (show us.length ≤ sizeLine by rw [← r1.length]; exact z), ?_⟩)
  exact ⟨I1.bk _ _ hC, hN.keeps I1.bk, TL.keeps I1.bk, fun h1 e1 hx1 => hx pins σ H1 s1 h1 e1 C us I1 hx1 q1⟩
end
section
variable {P : Program} {w : World} {K : PySem.W.Frag} {mg : Str → Option Value} {base : Heap} {N : List Str} {qual : Str} {scope : Scope} {f : Addr} {cd : Value} {A : Around} {outer : List Env} {s₀ : Shared} {H₀ : Hp} {E : XK}
theorem raiseG_out : RaiseG (cxOf (CXE P w) P w K mg base N qual scope f cd A outer s₀ H₀ E) (fun _ => E) := fun _ _ _ _ _ _ _ _ I hx hE => raise_out I hx hE
theorem passG_out : PassG (CXE P w) (cxOf (CXE P w) P w K mg base N qual scope f cd A outer s₀ H₀ E) (fun _ => E) := fun pins σ H s e s' I h => pass_out pins σ H s e s' I h
end
theorem Fun.okX {P : Program} {w : World} {K : PySem.W.Frag} {mg : Str → Option Value} {base : Heap} {x qual : Str} {st : Stmt} {f : Addr} {fd : FuncData} {N ps : List Str} {k : Nat} {sp : Sp} (F : Fun K x qual st f fd) (S : FnScope N ps (defScope st)) (len : ∀ vs H Q E, sp vs H Q E → vs.length = ps.length)
    (hbody : ∀ (cdv : Value) (A : Around) (outer : List Env) (s : Shared) (H : Hp) (vs : List V) (Q : VK) (E : XK), Room k (A.deeper (envOfC qual (defScope st) s.heap.objs.size f cdv)) → sp vs H Q E →
      ∃ t, PSs (cxOf (CXE P w) P w K mg base N qual (defScope st) f cdv A outer s H E) (defBody st) t ∧ t { nx := fun _ H' => Q .non H', rt := Q } (start N vs) H) : FnOk P w K mg base (CXE P w) (k + 1) f fd ps sp := by
  obtain ⟨oc, od, kV, doc, pm, an, cdv, ct, osl, rfl, lk, hcd⟩ := F.ex
  exact fn_of lk hcd S len fun A outer s H vs Q E hr hsp => hbody cdv A outer s H vs Q E hr hsp
def tryC (X : Cx) (pn : List (Addr × Obj)) (G : St → XK) : Cx := { X with pn := pn, xe := fun ev s' => ∃ σ H s, Inv { X with pn := pn, xe := fun _ _ => False } [] σ H s ∧ CXE X.prog X.w X.stack H s (G σ) ev s' }
theorem Inv.like {X Y : Cx} {pins pins' : List (Addr × Obj)} {σ : St} {H : Hp} {s : Shared} (I : Inv X pins σ H s) (ok : Y.Ok) (h1 : Y.s₀ = X.s₀) (h2 : Y.H₀ = X.H₀) (h3 : Y.outer = X.outer) (h4 : Y.ex = X.ex) (h5 : Y.env = X.env) (h6 : Y.N = X.N) (h7 : Y.prog = X.prog) (h8 : Y.w = X.w)
    (hp : ∀ p ∈ Y.pn ++ pins', s.heap.get? p.1 = some p.2 ∧ H p.1 = none ∧ p.1 ≠ X.env.locals ∧ p.1 ∉ X.fs ∧ ∀ v, p.2.data ≠ .cell v) : Inv Y pins' σ H s := by
  refine ⟨ok, by rw [h1]; exact I.os, I.bare, by show Un (frs Y.outer) Y.ex Y.H₀ H Y.s₀.heap s.heap; rw [h1, h2, h3, h4]; exact I.base, by rw [h5, h6]; exact I.loc, by rw [h5]; exact I.cell, by rw [h5]; exact I.free, by rw [h5]; exact I.freeC, fun p hm => ?_, by rw [h7, h8]; exact I.hok, by rw [h6]; exact I.len⟩
  show _ ∧ _ ∧ p.1 ≠ Y.env.locals ∧ p.1 ∉ frs Y.outer ∧ _
  rw [h5, h3]
  exact hp p hm
theorem tryC_pass {X : Cx} {pn : List (Addr × Obj)} {G : St → XK} : PassG (CXE X.prog X.w) (tryC X pn G) G := fun pins σ H s e s' I h =>
  ⟨σ, H, s, I.like (Y := { X with pn := pn, xe := fun _ _ => False }) ⟨I.ok.mod, I.ok.kind, I.ok.glob, I.ok.blt, I.ok.above, I.ok.inj, I.ok.has, I.ok.cab, I.ok.hd, I.ok.frames, I.ok.stk, I.ok.exf, I.ok.bs, I.ok.bsz, I.ok.noex, I.ok.exfs, I.ok.funs, I.ok.frf⟩ rfl rfl rfl rfl rfl rfl rfl rfl
    (fun p hp => I.pin p (List.mem_append_left _ (show p ∈ pn by simpa using hp))), h⟩
def excO (C a : Addr) : HO := .ext fun h => ∃ o, h.get? a = some o ∧ o.cls = .ref C ∧ ∃ vs, o.data = .fields vs
def hndC (X : Cx) (pn : List (Addr × Obj)) (e : Addr) : Cx := { X with pn := pn, A := X.A.mark (some (.ref e)), calm := false, xe := fun _ _ => False }
def tTry (K : PySem.W.Frag) (c : Addr) (i : Nat) (tb : (St → XK) → TS) (ts : TS) : TS := fun D σ H =>
  tb (fun σ1 cls _ H1 => ∃ C, cls = .ref C ∧ PySem.W.exmOne K (.ref C) (.ref c) = some true ∧ ∀ a, H1 a = none →
    ts { nx := fun σ2 H2 => D.nx (σ2.set i none) H2, rt := D.rt, bk := fun σ2 H2 => D.bk (σ2.set i none) H2, ct := fun σ2 H2 => D.ct (σ2.set i none) H2 } (σ1.set i (some (.ref a))) (upd H1 a (excO C a))) D σ H
end L2
set_option Elab.async false
set_option linter.all false
set_option maxRecDepth 100000
set_option maxHeartbeats 4000000
namespace L2
open PySem PySem.Spec PyProof.Rows
section
variable {X : Cx} {pins : List (Addr × Obj)} {σ : St} {H : Hp} {s : Shared}
theorem gone_ok {M : Model} {A : Around} {E : Value → Shared → Prop} {Q : Unit → Shared → Prop} {i : Nat} {n : Str} {pos : Pos} (I : Inv X pins σ H s) (hN : X.N.Nodup) (hi : X.N[i]? = some n) (hl : X.env.scope.names.lookup n = some .local)
    (h : ∀ s', Inv X pins (σ.set i none) H s' → Q () s') : wpAny M A (do bindName X.env n .none; unbindBehindTheSuite X.env n pos) Q E s := by
  obtain ⟨m, hn, hv⟩ := id I.loc
  have hcls : (X.env.scope.kind == .class || (X.env.scope.kind == .module && X.env.locals != X.env.globals)) = false := by rw [I.ok.kind]; rfl
  refine wpAny_nameGoes_keeps hl hn hcls fun h' v hn' hs => ?_
  have old : ∀ b o, X.s₀.heap.get? b = some o → b ≠ X.env.locals := fun b o e => Nat.ne_of_lt (Nat.lt_of_lt_of_le (Heap.lt_size e) I.ok.above)
  have trk : HOk X.prog X.w H h' := fun b ob e => by
    refine (I.hok b ob e).stay (fun c w' hc q => (hs.2 c ?_).trans q) (fun _ q => q) fun _ _ q => q
    rintro rfl
    rcases hc with hc | hc
    · rw [← hc, I.free] at e; cases e
    · rw [I.free] at hc; cases hc
  refine h _ ⟨I.ok, I.os, I.bare, ⟨fun b o e nn hb hx => (hs.2 b (old b o e)).trans (I.base.keep b o e nn hb hx), fun b o e nn hb hx => ?_, I.base.free, fun b o e hx => ?_, I.base.tups, I.base.frzs, I.base.tbls⟩,
    ⟨_, hn', fun j y v' e1 e2 e3 => ?_⟩, fun y c e => ?_, I.free, I.freeC, fun p hp => ?_, trk, by simpa using I.len⟩
  · obtain ⟨sl, e1⟩ := I.base.slot b o e nn hb hx
    exact ⟨sl, (hs.2 b (old b o e)).trans e1⟩
  · obtain ⟨o', e1⟩ := I.base.there b o e hx
    exact ⟨o', (hs.2 b (old b o e)).trans e1⟩
  · by_cases hj : j = i
    · subst hj
      rw [List.getElem?_set] at e2
      simp at e2
    · rw [List.getElem?_set_ne (Ne.symm hj)] at e2
      obtain ⟨u', r', q⟩ := hv j y v' e1 e2 e3
      refine ⟨u', r', ?_⟩
      rcases q with ⟨k, e⟩ | ⟨k, c, e, z⟩
      · refine .inl ⟨k, ?_⟩
        have : y ≠ n := fun e => hj (nodup_ix hN e1 (e ▸ hi))
        simp [this, e]
      · exact .inr ⟨k, c, e, z.sameBut hs (I.cne y c e)⟩
  · obtain ⟨w2, z2⟩ := I.cell y c e
    exact ⟨w2, z2.sameBut hs (I.cne y c e)⟩
  · obtain ⟨e, nn, ne, nf, d⟩ := I.pin p hp
    exact ⟨(hs.2 p.1 ne).trans e, nn, ne, nf, d⟩
theorem land_inv {s1 : Shared} {h' B : Heap} {H' : Hp} {e C : Addr} {a0 : Value} (I : Inv X pins σ H s) (os : s1.os = s.os) (bare : AllBare s1.gens) (un : Un (frs X.stack) [] H H' s.heap s1.heap) (hok : HOk X.prog X.w H' s1.heap)
    (f1 : B.StaysIn s1.heap) (fl : Heap.FlyingW B X.stack e (.ref C) a0 h') (up : s1.heap.UpToSlots h') (hT : ∀ b u, H' b = some u → ∃ o, B.get? b = some o) (hB : ∀ b o, s.heap.get? b = some o → b ∉ frs X.stack → ∃ o', B.get? b = some o') (he : s.heap.get? e = none) :
    Inv X pins σ (upd H' e (excO C e)) { s1 with heap := h' } := by
  have he' : H' e = none := by
    cases q : H' e with
    | none => rfl
    | some u =>
      obtain ⟨o, z⟩ := hT e u q
      rw [fl.2.1] at z; cases z
  have ne : ∀ b o, s.heap.get? b = some o → b ≠ e := fun b o q z => by rw [z, he] at q; cases q
  have neT : ∀ b u, H b = some u → b ≠ e := fun b u q => by
    obtain ⟨o, z⟩ := hok_there (I.hok b u q)
    exact ne b o z
  have slot : ∀ b o, s.heap.get? b = some o → b ∈ frs X.stack → ∃ sl, h'.get? b = some { o with slots := sl } := fun b o q hb => by
    obtain ⟨sl, q1⟩ := un.slot b o q (I.stkFree b hb) hb (by simp)
    obtain ⟨_, o2, ho2, hd⟩ := I.stack.mem hb
    rw [q] at ho2
    cases ho2
    obtain ⟨sl', z⟩ := up b _ q1 hd
    exact ⟨sl', z⟩
  obtain ⟨k1, k2, k3, oe, vs, T, oT, ts, hoe, ⟨hcls, h0⟩, hd, _⟩ := fl
  refine I.call' (s' := { s1 with heap := h' }) (ch := []) os ⟨fun b o q n hb _ => ?_, fun b o q n hb _ => slot b o q hb, fun b o q n _ => ?_, fun b o q _ => ?_, fun b xs q => ?_, fun b o u q => ?_, fun b ps q => ?_⟩ (fun b u q => ?_) bare fun b z => absurd z (by simp)
  · obtain ⟨o', z⟩ := hB b o q hb
    exact stay_by f1 k1 z (un.keep b o q n hb (by simp))
  · rw [upd_ne (ne b o q)]; exact un.free b o q n (by simp)
  · by_cases hb : b ∈ frs X.stack
    · obtain ⟨sl, z⟩ := slot b o q hb
      exact ⟨_, z⟩
    · obtain ⟨o', z⟩ := hB b o q hb
      exact ⟨o', k1 b o' z⟩
  · rw [upd_ne (neT b _ q)]; exact un.tups b xs q
  · rw [upd_ne (neT b _ q)]; exact un.frzs b o u q
  · rw [upd_ne (neT b _ q)]; exact un.tbls b ps q
  · by_cases hb : b = e
    · subst hb
      rw [upd_same] at q
      cases q
      exact ⟨⟨oe, hoe, hcls, vs, hd⟩, ⟨oe, hoe⟩, fun h1 h2 ⟨o, z, r⟩ st => ⟨o, st o z, r⟩⟩
    · rw [upd_ne hb] at q
      refine (hok b u q).stay (fun c v hc r => ?_) (fun c r => by rw [upd_ne (ne_of_none r he')]; exact r) fun c xs r => by rw [upd_ne (ne_of_none r he')]; exact r
      have ⟨o', z⟩ : ∃ o', B.get? c = some o' := by
        rcases hc with z | z
        · rw [z]; exact hT b u q
        · exact hT c _ z
      exact stay_by f1 k1 z r
end
theorem passG_never {X : Cx} {P : Program} {w : World} : PassG (CXE P w) X (fun _ _ _ _ => False) := fun pins σ H s e s' I h => by
  obtain ⟨_, _, _, _, _, _, _, _, _, _, _, _, _, _, hE⟩ := h
  exact hE.elim
section
variable {X : Cx} {c : Addr} {i : Nat} {x n : Str} {np hpos pos : Pos} {body suite : List Stmt} {b0 : Stmt} {tb : (St → XK) → TS} {ts : TS}
theorem ps_try (hst : X.stack = X.env :: X.outer) (hfr : X.env.frame = some X.env.locals) (hg : Gl X x) (hm : X.mg x = some (.ref c)) (hN : X.N.Nodup) (hi : X.N[i]? = some n) (hn : X.env.scope.names.lookup n = some .local)
    (hb : ∀ pn G, PSs (tryC X pn G) body (tb G)) (hs : ∀ pn e, PSs (hndC X pn e) (b0 :: suite) ts) (hdb : (x == ("__debug__" : Str)) = false := by decide) :
    PS X (.Try body [.ExceptHandler (some (.Name x np)) (some n) (b0 :: suite) hpos] [] [] pos) (tTry X.K c i tb ts) := by
  intro pins s σ H D I h
  refine wpAny_Try_except ?_
  have okT : ∀ G, (tryC X (X.pn ++ pins) G).Ok := fun G => ⟨I.ok.mod, I.ok.kind, I.ok.glob, I.ok.blt, I.ok.above, I.ok.inj, I.ok.has, I.ok.cab, I.ok.hd, I.ok.frames, I.ok.stk, I.ok.exf, I.ok.bs, I.ok.bsz, I.ok.noex, I.ok.exfs, I.ok.funs, I.ok.frf⟩
  have okH : ∀ e, (hndC X (X.pn ++ pins) e).Ok := fun e => ⟨I.ok.mod, I.ok.kind, I.ok.glob, I.ok.blt, I.ok.above, I.ok.inj, I.ok.has, I.ok.cab, fun z => (Bool.noConfusion z), I.ok.frames, I.ok.stk, I.ok.exf, I.ok.bs, I.ok.bsz, I.ok.noex, I.ok.exfs, I.ok.funs, I.ok.frf⟩
  have I0 : ∀ G, Inv (tryC X (X.pn ++ pins) G) [] σ H s := fun G => I.like (Y := tryC X (X.pn ++ pins) G) (okT G) rfl rfl rfl rfl rfl rfl rfl rfl fun p hp => I.pin p (by simpa [tryC] using hp)
  refine wpAny_mono (hb (X.pn ++ pins) _ [] s σ H D (I0 _) h) (fun f s1 q => ?_) (fun ev s1 q => ?_)
  · cases f with
    | next =>
      obtain ⟨σ', H', J, q⟩ := q
      exact wpAny_execs_nil ⟨σ', H', J.like (Y := X) I.ok rfl rfl rfl rfl rfl rfl rfl rfl fun p hp => J.pin p (by simpa [tryC] using hp), q⟩
    | brk =>
      obtain ⟨σ', H', J, q⟩ := q
      exact ⟨σ', H', J.like (Y := X) I.ok rfl rfl rfl rfl rfl rfl rfl rfl fun p hp => J.pin p (by simpa [tryC] using hp), q⟩
    | cont =>
      obtain ⟨σ', H', J, q⟩ := q
      exact ⟨σ', H', J.like (Y := X) I.ok rfl rfl rfl rfl rfl rfl rfl rfl fun p hp => J.pin p (by simpa [tryC] using hp), q⟩
    | ret u =>
      obtain ⟨v, σ', H', J, r, q⟩ := q
      exact ⟨v, σ', H', J.like (Y := X) I.ok rfl rfl rfl rfl rfl rfl rfl rfl fun p hp => J.pin p (by simpa [tryC] using hp), r, q⟩
  · obtain ⟨σ1, H1, s0, J, e, C, a0, B, H', rfl, os, bare, un, hok, fl, hT, hB, he, C', hC, hx, hts⟩ := q
    cases hC
    have he' : H' e = none := by
      cases q : H' e with
      | none => rfl
      | some u =>
        obtain ⟨o, z⟩ := hT e u q
        rw [fl.2.1] at z; cases z
    have hfrm : X.A.frames = some (X.env :: X.outer) := by rw [← hst]; exact I.ok.frames
    have fl0 : Heap.FlyingW B (X.env :: X.outer) e (.ref C) a0 s1.heap := by rw [← hst]; exact fl
    have toH : ∀ {σ2 : St} {H2 : Hp} {s2 : Shared}, Inv { X with pn := X.pn ++ pins, xe := fun _ _ => False } [] σ2 H2 s2 → Inv (hndC X (X.pn ++ pins) e) [] σ2 H2 s2 := fun {σ2 H2 s2} L =>
      L.like (Y := hndC X (X.pn ++ pins) e) (okH e) rfl rfl rfl rfl rfl rfl rfl rfl fun p hp => L.pin p (by simpa [hndC] using hp)
    have toX : ∀ {σ2 : St} {H2 : Hp} {s2 : Shared}, Inv (hndC X (X.pn ++ pins) e) [] σ2 H2 s2 → Inv X pins σ2 H2 s2 := fun {σ2 H2 s2} L =>
      L.like (Y := X) I.ok rfl rfl rfl rfl rfl rfl rfl rfl fun p hp => L.pin p (by simpa [hndC] using hp)
    have land : ∀ h', Heap.FlyingW B (X.env :: X.outer) e (.ref C) a0 h' → s1.heap.UpToSlots h' → Inv (hndC X (X.pn ++ pins) e) [] σ1 (upd H' e (excO C e)) { s1 with heap := h' } := fun h' f u =>
      toH (land_inv J os bare un hok fl.1 (by show Heap.FlyingW B X.stack e (.ref C) a0 h'; rw [hst]; exact f) u hT hB he)
    refine wpAny_looks_onW hfrm hfr fl0 fun h4 held4 up4 => ?_
    refine wpAny_landsW held4 fun h5 fl5 up5 => ?_
    have K5 := land h5 fl5 (up4.trans up5)
    refine wpAny_handleBy_cons (codeAny_handlers_test (ld_glob (X := hndC X (X.pn ++ pins) e) K5 hg hm ?_ hdb)) (by intro q; cases q)
    have LT : PySem.W.Looks (model X.prog X.w) h5 (typeOf (.ref e)) (.ref C) := by
      obtain ⟨ob, hob, hcl⟩ := fl5.there
      exact hcl ▸ (PySem.W.Looks.ld hob).andThen .now
    refine (PySem.W.exm_one (K := X.K) K5.kIn LT hx).here ?_
    refine codeAny_handlers_suite_as ?_
    refine lands_againW fl5 fun h6 fl6 up6 => ?_
    have K6 := land h6 fl6 (up4.trans (up5.trans up6))
    refine store_ok (X := hndC X (X.pn ++ pins) e) K6 hN hi (.inl hn) (v := .ref e) rfl (fun s7 K7 => ?_) (.inr hn)
    refine wpAny_mono (hs (X.pn ++ pins) e [] s7 (σ1.set i (some (.ref e))) _ _ K7 (hts e he')) (fun f s8 q8 => ?_) (fun _ _ z => z.elim)
    cases f with
    | next =>
      obtain ⟨σ8, H8, K8, q8⟩ := q8
      exact gone_ok (X := hndC X (X.pn ++ pins) e) K8 hN hi hn fun s9 K9 => ⟨_, _, toX K9, q8⟩
    | brk =>
      obtain ⟨σ8, H8, K8, q8⟩ := q8
      exact gone_ok (X := hndC X (X.pn ++ pins) e) K8 hN hi hn fun s9 K9 => ⟨_, _, toX K9, q8⟩
    | cont =>
      obtain ⟨σ8, H8, K8, q8⟩ := q8
      exact gone_ok (X := hndC X (X.pn ++ pins) e) K8 hN hi hn fun s9 K9 => ⟨_, _, toX K9, q8⟩
    | ret u =>
      obtain ⟨v, σ8, H8, K8, r8, q8⟩ := q8
      exact gone_ok (X := hndC X (X.pn ++ pins) e) K8 hN hi hn fun s9 K9 => ⟨_, _, _, toX K9, r8, q8⟩
end
end L2
set_option Elab.async false
set_option linter.all false
set_option maxRecDepth 100000
set_option maxHeartbeats 4000000
namespace L2
open PySem PySem.Spec PyProof.Rows
structure ExcA (K : PySem.W.Frag) (C : Addr) : Prop where
  ga : PySem.W.findIn K (.ref C) "__getattribute__" = some (some (.builtin "BaseException.__getattribute__"))
  gg : PySem.W.findIn K (.ref C) "__getattr__" = some none
  ca : PySem.W.findIn K (.ref C) "__class__" = some (some (.builtin "object.__class__"))
  sp : PySem.W.specialIn K (.builtin "object.__class__") "__get__" = some (some (.builtin "getset_descriptor.__get__"))
  tk : PySem.W.takesIn K (.builtin "object.__class__") = some true
  ob : PySem.W.mroIn K C (.type "object") = some true
  be : PySem.W.mroIn K C (.type "BaseException") = some true
section
variable {prog : Program} {w : World} {A : Around} {E : Value → Shared → Prop} {s : Shared} {K : PySem.W.Frag} {x C : Addr}
open PySem.W Builtin Builtin.ObjectAttr Builtin.Getset_descriptor in
theorem exc_class_get {R : Result → Shared → Prop} {tp : Value} (X : K.In s.heap) (L : Looks (model prog w) s.heap (typeOf (.ref x)) (.ref C)) (hm : mroIn K C (.type "object") = some true)
    (h : R (.ok (.ret (.ref C))) s) : codeAny (model prog w) A (.call (.builtin "getset_descriptor.__get__") ⟨[.builtin "object.__class__", .ref x, tp], []⟩) R s := by
  obtain ⟨hp, g, dr, t, os⟩ := s
  have L1 := looks_mroIn (M := model prog w) X hm
  refine (codeAny_call_builtin KF.slot_gs.plain KF.entry_gs (KF.slot_gs.check _ _ _ _ _ _ _ _ KF.type_class (KF.args_gs _ _ _) ?_))
  unfold Builtin.«getset_descriptor.__get__» descrGet
  rw [dga_obj]
  refine (wpAny_bind (wpAny_pure ?_))
  unfold descrGetter descrCheckInstance descrNameAndClass isInstance
  simp only [KF.owner_class]
  repeat lk
  refine ⟨Code.quiet_builtin _ (by decide +kernel), (codeAny_builtin KF.entry_class ?_)⟩
  unfold Builtin.«object.__class__» shownTypeOf
  repeat lk
  exact h
open PySem.W in
theorem exc_find {M : Model} {h : Heap} (X : K.In h) (q : ExcA K C) : Looks M h (Builtin.ObjectAttr.find (.ref x) (.ref C) "__class__") (.bind (.builtin "getset_descriptor.__get__") (.builtin "object.__class__")) := by
  have L1 := looks_findIn (M := M) X q.ca
  have L2 := looks_specialIn (M := M) X q.sp
  have L3 := looks_takesIn (M := M) X q.tk
  have L4 : Looks M h (Builtin.ObjectAttr.dataDescriptor? (some (.builtin "object.__class__")) (some (.builtin "getset_descriptor.__get__"))) (some (.builtin "getset_descriptor.__get__", .builtin "object.__class__")) := L3.andThen .now
  exact L1.andThen (L2.andThen (L4.andThen (Looks.tag .now)))
open PySem.W in
theorem exc_ga_body {tk : Tok} {Q : Fin → Shared → Prop} (X : K.In s.heap) (L : Looks (model prog w) s.heap (typeOf (.ref x)) (.ref C)) (q : ExcA K C) (h : Q (.done (.ret (.ref C))) s) :
    wpAny (model prog w) A (Builtin.«object.__getattribute__» ⟨[.ref x, .str "__class__" tk], []⟩) Q E s := by
  obtain ⟨hp, g, d, t, os⟩ := s
  have F1 := exc_find (M := model prog w) (x := x) X q
  unfold Builtin.«object.__getattribute__»
  refine wpAny_bind (wpAny_of_eq (a := (Value.ref x, [Value.str "__class__" tk])) (by rfl) ?_)
  refine wpAny_bind (wpAny_of_eq (a := ("__class__" : Str)) (by rfl) ?_)
  refine wpAny_bind (L.at (wpAny_bind (F1.at ?_)))
  show wpAny _ _ (Builtin.ObjectAttr.bindTo (.builtin "getset_descriptor.__get__") (.builtin "object.__class__") (.ref x) (.ref C)) _ _ _
  unfold Builtin.ObjectAttr.bindTo
  refine wpAny_bind (wpAny_holding (wpAny_call (exc_class_get X L q.ob ?_)))
  exact wpAny_pure h
theorem exc_check {M : Model} {nameV : Value} {Q : Unit → Shared → Prop} (L : PySem.W.Looks M s.heap (typeOf (.ref x)) (.ref C)) (LB : PySem.W.Looks M s.heap (isSubtype (.ref C) (.type "BaseException")) true) (hq : Q () s) :
    wpAny M A (checkBuiltinCall "BaseException.__getattribute__" ⟨[.ref x, nameV], []⟩) Q E s := by
  obtain ⟨hp, g, d, t, os⟩ := s
  have hk : builtinKind "BaseException.__getattribute__" = some .slot := by decide +kernel
  have hsplit : splitId "BaseException.__getattribute__" = some ("BaseException", "__getattribute__") := by decide +kernel
  have ha := F.args_bexc_ga (.ref x) nameV
  simp only [checkBuiltinCall, hk, hsplit]
  refine wpAny_bind ((L.andThen LB : PySem.W.Looks M hp (isInstance (.ref x) (.type "BaseException")) true).at ?_)
  repeat (any_goals (first | assumption | wp_step))
open PySem.W in
theorem exc_class {Q : Option Value → Shared → Prop} (X : K.In s.heap) (L : Looks (model prog w) s.heap (typeOf (.ref x)) (.ref C)) (q : ExcA K C) (h : Q (some (.ref C)) { s with toks := s.toks + 1 }) : wpAny (model prog w) A (getAttr? (.ref x) "__class__") Q E s := by
  obtain ⟨hp, g, d, t, os⟩ := s
  have L1 := looks_findIn (M := model prog w) X q.ga
  have L2 := looks_findIn (M := model prog w) X q.gg
  have L3 := looks_mroIn (M := model prog w) X q.be
  unfold getAttr? getAttrBy? getAttrBy
  refine wpAny_bind (wpAny_mkText (wpAny_bind (wpAny_attempt (wpAny_holding (wpAny_bind (L.at (wpAny_bind (L1.at ?_))))))))
  have e : (onTheHeap (Value.ref C) && Value.builtin "BaseException.__getattribute__" == Value.builtin "object.__getattribute__") = false := by
    have : (Value.builtin "BaseException.__getattribute__" == Value.builtin "object.__getattribute__") = false := by decide +kernel
    rw [this]; rfl
  dsimp only
  rw [e, if_neg Bool.false_ne_true]
  unfold getAttrByItsOwn hookBefore
  refine wpAny_bind ?_
  show wpAny _ _ (typeLookup (.ref C) "__getattr__") _ _ _
  refine L2.at ?_
  refine wpAny_bind (wpAny_attempt (wpAny_holding ?_))
  show wpAny _ _ (boundAndCalled (.builtin "BaseException.__getattribute__") (.ref x) (.str "__class__" t)) _ _ _
  unfold boundAndCalled
  refine wpAny_bind (wpAny_of_eq (F.attr_ValueError.ga.bind (.ref x)) ?_)
  show wpAny _ _ (call (.builtin "BaseException.__getattribute__") [.ref x, .str "__class__" t]) _ _ _
  refine wpAny_call (codeAny_call_builtin F.attr_ValueError.ga.plain F.entry_bexc_ga (exc_check L L3 (exc_ga_body X L q ?_)))
  exact wpAny_pure (wpAny_pure h)
theorem kitx_exc (q : ExcA K C) (hc : (PySem.W.clsIn K C).isSome = true) : PySem.W.KitX K (.ref x) (.ref C) (fun h => ∃ o, h.get? x = some o ∧ o.cls = .ref C) where
  ty := fun M h _ ⟨o, e, c⟩ => c ▸ (PySem.W.Looks.ld e).andThen .now
  it := fun M h X _ => by
    obtain ⟨cd, hcd⟩ := Option.isSome_iff_exists.mp hc
    unfold PySem.W.clsIn at hcd
    split at hcd
    · rename_i ho
      intro A' Q' E' s' k z
      unfold isType loadHead
      exact wpAny_bind (wpAny_loadPart (k _ _ (X _ _ ho)) (wpAny_pure z))
    · cases hcd
  ne := fun h tp dd its n sl X htp => by
    obtain ⟨cd, hcd⟩ := Option.isSome_iff_exists.mp hc
    refine Bool.eq_false_iff.mpr fun z => ?_
    have e : C = tp := Value.ref.inj (beq_iff_eq.mp z)
    subst e
    unfold PySem.W.clsIn at hcd
    split at hcd
    · rename_i ho
      have z2 := (X _ _ ho).symm.trans htp
      cases z2
    · cases hcd
  ca := fun X ⟨o, e, c⟩ k => exc_class X (c ▸ (PySem.W.Looks.ld e).andThen .now) q k
end
section
variable {X : Cx} {K : PySem.W.Frag}
theorem mro_cls {K : PySem.W.Frag} {C : Addr} {b : Value} {r : Bool} (e : PySem.W.mroIn K C b = some r) : (PySem.W.clsIn K C).isSome = true := by
  obtain ⟨cd, a, _⟩ := Option.bind_eq_some_iff.mp e
  rw [a]; rfl
theorem call_isiE (hK : X.K = K) : CallR X (.builtin "isinstance") (fun xs H Q => ∃ a C c cv b, xs = [.ref a, c] ∧ clsV c = some cv ∧ H a = some (excO C a) ∧ ExcA K C ∧ PySem.W.kitOne K (.ref C) cv = some b ∧ Q (.bl b) H) := by
  subst hK
  intro pins s σ H xs us Q I r h
  obtain ⟨a, C, c, cv, b, rfl, hc, hE, hA, e, q⟩ := h
  obtain ⟨u, u', rfl, r1, r2⟩ := vals2 r
  obtain rfl : u = Value.ref a := r1
  obtain rfl := clsV_rel hc r2
  obtain ⟨⟨o, ho, hcl, _⟩, _⟩ := (show ObjOk X.prog X.w H s.heap a (excO C a) from I.hok a _ hE)
  exact PySem.W.kia_one (kitx_exc hA (mro_cls hA.ob)) I.kIn ⟨o, ho, hcl⟩ e (fun z => nomatch z) fun tk => ⟨.bl b, H, I.tok tk, rfl, q⟩
end
end L2
set_option Elab.async false
set_option linter.all false
set_option maxRecDepth 100000
set_option maxHeartbeats 4000000
namespace L2
open PySem PySem.Spec PyProof.Rows
theorem eqAt_rel {A : Around} {s : Shared} {x : V} {u v : Value} (h1 : RelV x u) (h2 : RelV x v) (hf : ∀ z, x ≠ .flt z) (hb : ∀ z, x ≠ .byt z) : SeqAt.EqAt A s u v true := by
  cases x with
  | non => cases h1; cases h2; exact SeqAt.EqAt.same _
  | bl b => cases h1; cases h2; exact SeqAt.EqAt.same _
  | int i =>
    obtain ⟨t, rfl⟩ := h1
    obtain ⟨t', rfl⟩ := h2
    have := SeqAt.EqAt.int_int (A := A) (s := s) i t i t'
    rwa [beq_self_eq_true] at this
  | str z =>
    obtain ⟨t, rfl⟩ := h1
    obtain ⟨t', rfl⟩ := h2
    have := SeqAt.EqAt.str_str (A := A) (s := s) z t z t'
    rwa [beq_self_eq_true] at this
  | byt z => exact absurd rfl (hb z)
  | flt z => exact absurd rfl (hf z)
  | ref a => cases h1; cases h2; exact SeqAt.EqAt.same _
  | ty n => cases h1; cases h2; exact SeqAt.EqAt.same _
def plainV : V → Bool
  | .flt _ => false
  | .byt _ => false
  | _ => true
theorem vals_at {xs : List V} {us : List Value} (r : Vals xs us) {j : Nat} (h1 : j < xs.length) (h2 : j < us.length) : RelV xs[j] us[j] := by
  obtain ⟨u, e, q⟩ := r.get (i := j) (x := xs[j]) (by simp [h1])
  have : us[j]? = some us[j] := by simp [h2]
  rw [this] at e
  cases e
  exact q
section
variable {X : Cx} {K : PySem.W.Frag}
end
end L2
set_option Elab.async false
set_option linter.all false
set_option maxRecDepth 100000
set_option maxHeartbeats 4000000
namespace L2
open PySem PySem.Spec PyProof.Rows
structure DefAt (K : PySem.W.Frag) (x : Str) (st : Stmt) : Prop where
  ex : ∃ (f : Addr) (oc : Value) (od : Option Addr) (osl : Array (Option Value)) (kV doc pm : Value) (an : Option Addr) (cdv ct : Value), PySem.W.nsIn K mainGlobals x = some (some (.ref f)) ∧
    K.lookup f = some ⟨oc, od, .func (PySem.W.fnOf x x (defArgs st) (defBody st) (defScope st) .none kV doc pm an cdv ct), osl⟩ ∧ PySem.W.codeIn K cdv x = true ∧ PySem.W.keepIn K (.ref f) = true
theorem defAt {K : PySem.W.Frag} {x : Str} {st : Stmt} {f : Addr} {oc : Value} {od : Option Addr} {osl : Array (Option Value)} {kV doc pm : Value} {an : Option Addr} {cdv ct : Value} (a : PySem.W.nsIn K mainGlobals x = some (some (.ref f)))
    (l : K.lookup f = some ⟨oc, od, .func (PySem.W.fnOf x x (defArgs st) (defBody st) (defScope st) .none kV doc pm an cdv ct), osl⟩) (c : PySem.W.codeIn K cdv x = true) (k : PySem.W.keepIn K (.ref f) = true) : DefAt K x st := ⟨⟨f, oc, od, osl, kV, doc, pm, an, cdv, ct, a, l, c, k⟩⟩
def BindAt (x : Str) (st : Stmt) (ps : List Str) : Prop := ∀ (kV doc pm : Value) (an : Option Addr) (cdv ct : Value) (us : List Value), us.length = ps.length → bindArgs (PySem.W.fnOf x x (defArgs st) (defBody st) (defScope st) .none kV doc pm an cdv ct) ⟨us, []⟩ = pure (ps.zip us)
section
variable {P : Program} {w : World} {K : PySem.W.Frag} {mg : Str → Option Value} {base h : Heap} {x : Str} {st : Stmt} {ps : List Str} {k : Nat} {sp : Sp}
theorem DefAt.cal (D : DefAt K x st) (X : K.In h) (G : h.Ns mainGlobals mg) (hb : BindAt x st ps) (mk : ∀ f fd, Fun K x x st f fd → FnOk P w K mg base CX0 k f fd ps sp) : Cal P w K mg base k x ps sp := by
  obtain ⟨f, oc, od, osl, kV, doc, pm, an, cdv, ct, a, l, c, kk⟩ := D.ex
  have F := fun_mk (st := st) l c kk
  exact ⟨⟨f, _, mk f _ F, PySem.W.mg_of X G a, kk, F.binds hb⟩⟩
theorem DefAt.law {fa : Addr} {y : Str} (D : DefAt K x st) (X : K.In h) (G : h.Ns mainGlobals mg) (hfa : mg x = some (.ref fa)) (hb : BindAt x st [y]) (mk : ∀ f fd (base : Heap), Fun K x x st f fd → K.In base → base.Ns mainGlobals mg → FnOk P w K mg base CX0 k f fd [y] sp) :
    ∃ fd : FuncData, (∀ (s : Shared) (u : Value), BindsTo s fd ⟨[u], []⟩ [(y, u)]) ∧ ∀ base : Heap, K.In base → base.Ns mainGlobals mg → FnOk P w K mg base CX0 k fa fd [y] sp := by
  obtain ⟨f, oc, od, osl, kV, doc, pm, an, cdv, ct, a, l, c, kk⟩ := D.ex
  have F := fun_mk (st := st) l c kk
  have e := hfa.symm.trans (PySem.W.mg_of X G a)
  cases e
  exact ⟨_, fun s u => .of_eq (hb kV doc pm an cdv ct [u] rfl), fun base kb nb => mk fa _ base F kb nb⟩
theorem txt_nil : Txt [] mg := ⟨fun _ h => absurd h (by simp)⟩
theorem txt_cons {y : Str} {BN : List Str} (X : K.In h) (G : h.Ns mainGlobals mg) (a : PySem.W.nsIn K mainGlobals y = some none) (r : Txt BN mg) : Txt (y :: BN) mg := ⟨fun z hz => by
  rcases List.mem_cons.mp hz with e | e
  · rw [e]; exact PySem.W.mg_none_of X G a
  · exact r.nb z e⟩
end
def spLaw (K : PySem.W.Frag) : Sp := fun vs H Q _ => ∃ (a : Addr) (ns : List Int), vs = [.ref a] ∧ SqL K H a (ns.map V.int) ∧ ns.length ≤ 63 ∧ ∀ H', Q (.bl true) H'
theorem walkLaw {l : PySem.W.OpenLaw} {q : Program} {loose : List Str} {XP : (Str → Option Value) → Heap → Prop} {YP : World → Heap → Prop} {d : DefRec} {K : Params → PySem.W.Frag} {k : Nat} {x : Str} (hn : l.most = some 63) (hdf : d.params.defaults = []) (hk : Room k callerA)
    (hY : ∀ (w : World) (h : Heap), YP w h → (K w.params).In h)
    (F : ∀ (w : World) (mg : Str → Option Value) (fa : Addr) (h : Heap), (K w.params).In h → h.Ns mainGlobals mg → mg d.name = some (.ref fa) →
      ∃ fd : FuncData, (∀ (s : Shared) (u : Value), BindsTo s fd ⟨[u], []⟩ [(x, u)]) ∧ ∀ base : Heap, (K w.params).In base → base.Ns mainGlobals mg → FnOk l.prog w (K w.params) mg base CX0 k fa fd [x] (spLaw (K w.params))) :
    PySem.W.WalkO q loose XP YP l.row.toRowW d [] (fun f vs => PySem.call f vs) :=
  L2.walk_of (n := 63) (k := k) (x := x) (CX := fun _ => CX0) (sp := fun w => spLaw (K w.params)) hn (by decide) hdf hk hY F (fun _ _ a ns hl _ hS => ⟨a, ns, rfl, hS, hl, fun _ => rfl⟩) fun _ _ _ _ _ z => z
def cutI (ns : List Int) (lo hi : Option Int) : List Int := (ns.drop (HT.sIx ns.length 0 lo)).take (HT.sIx ns.length ns.length hi - HT.sIx ns.length 0 lo)
theorem cut_map (ns : List Int) (lo hi : Option Int) : cutV (ns.map V.int) lo hi = (cutI ns lo hi).map V.int := by
  unfold cutV cutI
  rw [List.length_map, List.map_take, List.map_drop]
theorem cutI_length (ns : List Int) (lo hi : Option Int) : (cutI ns lo hi).length ≤ ns.length := by
  unfold cutI
  rw [List.length_take, List.length_drop]
  omega
end L2
set_option linter.all false
namespace Mw
end Mw
set_option linter.all false
namespace Mw
def lcmF (bs : List Int) : Int := bs.foldl (fun m n => m * (n / (Int.gcd m n : Int))) 1
def gcdF (ws : List Int) : Int := ws.foldl (fun d n => (Int.gcd d n : Int)) 0
def wholes (fs : List (Int × Int)) : List Int := fs.map fun f => f.1 * (lcmF (fs.map (·.2)) / f.2)
def whole (fs : List (Int × Int)) : List Int := if gcdF (wholes fs) = 0 then wholes fs else (wholes fs).map (· / gcdF (wholes fs))
end Mw
set_option Elab.async false
set_option linter.all false
set_option maxRecDepth 100000
set_option maxHeartbeats 4000000
namespace L2
theorem iteD {c A B : Prop} [Decidable c] (h1 : c → A) (h2 : ¬ c → B) : if decide c = true then A else B := by
  by_cases h : c
  · rw [decide_eq_true h]; exact iteT (h1 h)
  · rw [decide_eq_false h]; exact iteF (h2 h)
end L2
namespace Mw
open PySem L2
theorem take_snoc {α : Type} {l : List α} {i : Nat} {x : α} (h : l[i]? = some x) : l.take (i + 1) = l.take i ++ [x] := by
  rw [List.take_add_one, h]; rfl
theorem of_map {α : Type} {g : α → V} {l : List α} {i : Nat} {v : V} (h : (l.map g)[i]? = some v) : ∃ x, l[i]? = some x ∧ v = g x := by
  rw [List.getElem?_map] at h
  cases e : l[i]? with
  | none => rw [e] at h; cases h
  | some x => rw [e] at h; exact ⟨x, rfl, (Option.some.inj h).symm⟩
def FrAt (K : PySem.W.Frag) (H : Hp) (as : List Addr) (fs : List (Int × Int)) : Prop := Paired (fun a f => SqT K H a [.int f.1, .int f.2]) as fs
theorem FrAt.same {K : PySem.W.Frag} {H H' : Hp} {as : List Addr} {fs : List (Int × Int)} (e : Same H H') (h : FrAt K H as fs) : FrAt K H' as fs := Paired.mapP h fun _ _ q => e.seqT q
theorem paired_get {α β : Type} {R : α → β → Prop} : ∀ {as : List α} {bs : List β} {i : Nat} {a : α}, Paired R as bs → as[i]? = some a → ∃ b, bs[i]? = some b ∧ R a b
  | _, _, _, _, .nil, e => by simp at e
  | _, _, 0, _, .cons r _, e => by simp at e; subst e; exact ⟨_, rfl, r⟩
  | _, _, i + 1, a, .cons _ t, e => by
    obtain ⟨b, h1, h2⟩ := paired_get (i := i) (a := a) t (by simpa using e)
    exact ⟨b, by simpa using h1, h2⟩
theorem wk_none {σ2 : St} {n : Nat} (h : σ2.length = n) : Wk (List.replicate n none) σ2 := by
  refine ⟨by rw [h, List.length_replicate], fun i v e => ?_⟩
  rw [List.getElem?_replicate] at e
  split at e <;> cases e
theorem mul64 {i j : Int} (h1 : -18446744073709551616 < i) (h2 : i < 18446744073709551616) (h3 : -18446744073709551616 < j) (h4 : j < 18446744073709551616) : CMulB i j := by
  have e : (2 : Nat) ^ 64 = 18446744073709551616 := by decide
  refine ⟨64, by decide, ?_, ?_⟩
  · show i.natAbs < 2 ^ 64
    omega
  · show j.natAbs < 2 ^ 64
    omega
theorem div64 {i j : Int} (h1 : 0 < j) (h2 : j < 18446744073709551616) : CDivP i j := by
  have e : (2 : Nat) ^ 64 = 18446744073709551616 := by decide
  refine ⟨h1, Bits.mono (n := 64) ?_ (by decide)⟩
  show j.natAbs < 2 ^ 64
  omega
end Mw
set_option Elab.async false
set_option linter.all false
set_option maxRecDepth 100000
set_option maxHeartbeats 4000000
namespace L2
open PySem PySem.Spec PyProof.Rows
theorem SqB.t {K : PySem.W.Frag} {H : Hp} {a : Addr} {xs : List V} (h : SqT K H a xs) : SqB K true H a xs := h
theorem SqB.l {K : PySem.W.Frag} {H : Hp} {a : Addr} {xs : List V} (h : SqL K H a xs) : SqB K false H a xs := h
section
variable {X : Cx} {K : PySem.W.Frag}
end
def tJoin (t : TS) : TS := fun D σ H => ∃ J : St → Hp → Prop, t { D with nx := J } σ H ∧ ∀ σ' H', J σ' H' → D.nx σ' H'
theorem ps_join {X : Cx} {st : Stmt} {t : TS} (h : PS X st t) : PS X st (tJoin t) := fun pins s σ H D I ⟨J, h1, h2⟩ => thn (h pins s σ H _ I h1) fun f s' q => by
  cases f with
  | next =>
    obtain ⟨σ', H', I', j⟩ := q
    exact ⟨σ', H', I', h2 σ' H' j⟩
  | brk => exact q
  | cont => exact q
  | ret u => exact q
section
variable {prog : Program} {w : World} {A : Around} {R : Result → Shared → Prop} {I : Addr} {fp wr : List Addr} {n : Nat} {P : Nat → Value → Prop} {St : Nat → Heap → Prop}
end
section
variable {prog : Program} {w : World} {A : Around} {E : Value → Shared → Prop} {s : Shared}
end
section
variable {X : Cx} {x kw : Str} {p pos kpos : Pos} {e d : Expr} {es : List Expr} {t : TA} {te : TE} {id : String} {r : List V → V → Hp → VK → Prop}
end
end L2
set_option Elab.async false
set_option linter.all false
set_option maxRecDepth 100000
set_option maxHeartbeats 4000000
namespace L2
open PySem PySem.Spec PyProof.Rows
theorem DefAt.calX {P : Program} {w : World} {K : PySem.W.Frag} {mg : Str → Option Value} {base h : Heap} {x : Str} {st : Stmt} {ps : List Str} {k : Nat} {sp : Sp} (D : DefAt K x st) (X : K.In h) (G : h.Ns mainGlobals mg) (hb : BindAt x st ps) (mk : ∀ f fd, Fun K x x st f fd → FnOk P w K mg base (CXE P w) k f fd ps sp) : CalX P w K mg base k x ps sp := by
  obtain ⟨f, oc, od, osl, kV, doc, pm, an, cdv, ct, a, l, c, kk⟩ := D.ex
  have F := fun_mk (st := st) l c kk
  exact ⟨⟨f, _, mk f _ F, PySem.W.mg_of X G a, kk, F.binds hb⟩⟩
theorem pe_cls {X : Cx} {x : Str} {C : Addr} {pos : Pos} (hg : Gl X x) (hm : X.mg x = some (.ref C)) (hd : (x == ("__debug__" : Str)) = false := by decide) : PE X (.Name x pos) (tC (.ref C)) := pe_glob hg hm rfl hd
structure ClN (mg : Str → Option Value) (x : Str) (C : Addr) : Prop where
  g : mg x = some (.ref C)
end L2
namespace Mw
open PySem L2
end Mw
namespace Mw
open PySem L2
end Mw
set_option Elab.async false
set_option linter.all false
set_option maxRecDepth 100000
set_option maxHeartbeats 4000000
namespace L2
open PySem PySem.Spec PyProof.Rows
section
variable {X : Cx} {c : Addr} {x : Str} {np hpos pos : Pos} {body suite : List Stmt} {b0 : Stmt} {tb : (St → XK) → TS} {ts : TS}
end
structure FunD (K : PySem.W.Frag) (x qual : Str) (st : Stmt) (T : Addr) (ds : List Value) (f : Addr) (fd : FuncData) : Prop where
  ex : ∃ (oc : Value) (od : Option Addr) (kV doc pm : Value) (an : Option Addr) (cdv ct : Value) (osl : Array (Option Value)),
    fd = PySem.W.fnOf x qual (defArgs st) (defBody st) (defScope st) (.ref T) kV doc pm an cdv ct ∧ K.lookup f = some ⟨oc, od, .func fd, osl⟩ ∧ PySem.W.codeIn K cdv qual = true
  tu : ∃ (o : Obj) (n : Nat), K.lookup T = some o ∧ o.data = .seq ds.toArray n
  kp : PySem.W.keepIn K (.ref f) = true
theorem FunD.okX {P : Program} {w : World} {K : PySem.W.Frag} {mg : Str → Option Value} {base : Heap} {x qual : Str} {st : Stmt} {T : Addr} {ds : List Value} {f : Addr} {fd : FuncData} {N ps : List Str} {k : Nat} {sp : Sp} (F : FunD K x qual st T ds f fd) (S : FnScope N ps (defScope st)) (len : ∀ vs H Q E, sp vs H Q E → vs.length = ps.length)
    (hbody : ∀ (cdv : Value) (A : Around) (outer : List Env) (s : Shared) (H : Hp) (vs : List V) (Q : VK) (E : XK), Room k (A.deeper (envOfC qual (defScope st) s.heap.objs.size f cdv)) → sp vs H Q E →
      ∃ t, PSs (cxOf (CXE P w) P w K mg base N qual (defScope st) f cdv A outer s H E) (defBody st) t ∧ t { nx := fun _ H' => Q .non H', rt := Q } (start N vs) H) : FnOk P w K mg base (CXE P w) (k + 1) f fd ps sp := by
  obtain ⟨oc, od, kV, doc, pm, an, cdv, ct, osl, rfl, lk, hcd⟩ := F.ex
  exact fn_of lk hcd S len fun A outer s H vs Q E hr hsp => hbody cdv A outer s H vs Q E hr hsp
def BindD (x : Str) (st : Stmt) (ds : List Value) (us : List Value) (kw : List (Str × Value)) (bs : List (Str × Value)) : Prop := ∀ (T : Addr) (kV doc pm : Value) (an : Option Addr) (cdv ct : Value),
  ∃ k, bindArgs (PySem.W.fnOf x x (defArgs st) (defBody st) (defScope st) (.ref T) kV doc pm an cdv ct) ⟨us, kw⟩ = seqItems? (.ref T) >>= k ∧ k (some ds.toArray) = pure bs
theorem FunD.bindsTo {K : PySem.W.Frag} {x : Str} {st : Stmt} {T : Addr} {ds : List Value} {f : Addr} {fd : FuncData} (F : FunD K x x st T ds f fd) {us : List Value} {kw bs : List (Str × Value)} (h : BindD x st ds us kw bs) {s : Shared} (X : K.In s.heap) : BindsTo s fd ⟨us, kw⟩ bs := by
  obtain ⟨oc, od, kV, doc, pm, an, cdv, ct, osl, rfl, lk, hcd⟩ := F.ex
  obtain ⟨o, n, ht, hd⟩ := F.tu
  obtain ⟨k, h1, h2⟩ := h T kV doc pm an cdv ct
  exact .of_defaults (T := T) rfl (X _ _ ht) hd h1 h2
structure DefAtD (K : PySem.W.Frag) (x : Str) (st : Stmt) (vs : List V) : Prop where
  ex : ∃ (f T : Addr) (fd : FuncData) (ds : List Value), PySem.W.nsIn K mainGlobals x = some (some (.ref f)) ∧ FunD K x x st T ds f fd ∧ Vals vs ds
theorem DefAtD.calX {P : Program} {w : World} {K : PySem.W.Frag} {mg : Str → Option Value} {base h : Heap} {x : Str} {st : Stmt} {dv : V} {ps : List Str} {k : Nat} {sp : Sp} (D : DefAtD K x st [dv]) (X : K.In h) (G : h.Ns mainGlobals mg) (hb : ∀ d us, us.length = ps.length → BindD x st [d] us [] (ps.zip us))
    (mk : ∀ T ds f fd, FunD K x x st T ds f fd → FnOk P w K mg base (CXE P w) k f fd ps sp) : CalX P w K mg base k x ps sp := by
  obtain ⟨f, T, fd, ds, a, F, hv⟩ := D.ex
  refine ⟨⟨f, fd, mk _ _ _ _ F, PySem.W.mg_of X G a, F.kp, fun s us hK hl => ?_⟩⟩
  rw [List.append_nil] at hl ⊢
  obtain ⟨d, rfl, _⟩ := vals1 hv
  exact F.bindsTo (hb d us hl) hK
end L2
namespace L2
open PySem PySem.Spec PyProof.Rows
end L2
set_option Elab.async false
set_option linter.all false
set_option maxRecDepth 100000
set_option maxHeartbeats 4000000
namespace L2
open PySem PySem.Spec PyProof.Rows
section
variable {X : Cx} {k : Nat} {ps : List Str} {sp : Sp} {dv : V} {G : St → XK} {x ky : Str} {p pos : Pos} {e : Expr} {es : List Expr} {kws : List Keyword} {t tk : TA}
end
section
variable {P : Program} {w : World} {K : PySem.W.Frag} {mg : Str → Option Value} {base h : Heap} {x : Str} {st : Stmt} {dv : V} {ps : List Str} {k : Nat} {sp : Sp} {ky : Str}
end
end L2
set_option linter.all false
namespace Mw
def dot (xs ys : List Int) : Int := (List.zipWith (· * ·) xs ys).sum
end Mw
set_option linter.all false
namespace Mw
end Mw
set_option Elab.async false
set_option linter.all false
set_option maxRecDepth 100000
set_option maxHeartbeats 4000000
namespace Mw
open PySem L2
def RowsAt (K : PySem.W.Frag) (H : Hp) (as : List Addr) (rs : List (List Int × Int)) : Prop := Paired (fun a r => ∃ p, SqT K H a [.ref p, .int r.2] ∧ SqT K H p (r.1.map V.int)) as rs
theorem RowsAt.same {K : PySem.W.Frag} {H H' : Hp} {as : List Addr} {rs : List (List Int × Int)} (e : Same H H') (h : RowsAt K H as rs) : RowsAt K H' as rs := Paired.mapP h fun _ _ ⟨p, q1, q2⟩ => ⟨p, e.seqT q1, e.seqT q2⟩
structure RowsOk (m : Nat) (rs : List (List Int × Int)) : Prop where
  pos : 0 < m
  few : m ≤ 4
  len : rs.length ≤ 200
  cnt : ∀ r ∈ rs, r.1.length = m
  low : ∀ r ∈ rs, ∀ x ∈ r.1, -1000 ≤ x ∧ x ≤ 1000
  sid : ∀ r ∈ rs, r.2 = 0 ∨ r.2 = 1
theorem RowsOk.ne {m : Nat} {rs : List (List Int × Int)} (h : RowsOk m rs) {r : List Int × Int} (hr : r ∈ rs) : r.1 ≠ [] := fun z => by
  have := h.cnt r hr
  have := h.pos
  rw [z] at *
  simp at *
  omega
theorem RowsOk.sub {m : Nat} {rs rs' : List (List Int × Int)} (h : RowsOk m rs) (hl : rs'.length ≤ 200) (hs : ∀ r ∈ rs', r ∈ rs) : RowsOk m rs' :=
  ⟨h.pos, h.few, hl, fun r hr => h.cnt r (hs r hr), fun r hr => h.low r (hs r hr), fun r hr => h.sid r (hs r hr)⟩
theorem RowsOk.app {m : Nat} {rs rs' : List (List Int × Int)} (h : RowsOk m rs) (h' : RowsOk m rs') (hl : rs.length + rs'.length ≤ 200) : RowsOk m (rs ++ rs') := by
  refine ⟨h.pos, h.few, by rw [List.length_append]; exact hl, fun r hr => ?_, fun r hr => ?_, fun r hr => ?_⟩ <;> rcases List.mem_append.mp hr with z | z
  · exact h.cnt r z
  · exact h'.cnt r z
  · exact h.low r z
  · exact h'.low r z
  · exact h.sid r z
  · exact h'.sid r z
theorem RowsOk.nil {m : Nat} (h0 : 0 < m) (h1 : m ≤ 4) : RowsOk m [] := ⟨h0, h1, by decide, fun _ h => absurd h (by simp), fun _ h => absurd h (by simp), fun _ h => absurd h (by simp)⟩
end Mw
set_option Elab.async false
set_option linter.all false
set_option maxRecDepth 100000
set_option maxHeartbeats 4000000
namespace L2
open PySem PySem.Spec PyProof.Rows
def Deep (K : PySem.W.Frag) (H : Hp) : Nat → V → V → Prop
  | 0, x, y => x = y ∧ plainV x = true
  | n + 1, x, y => (x = y ∧ plainV x = true) ∨ ∃ a b xs ys, x = .ref a ∧ y = .ref b ∧ ((SqL K H a xs ∧ SqL K H b ys) ∨ (SqT K H a xs ∧ SqT K H b ys)) ∧ Paired (Deep K H n) xs ys
theorem Deep.same {K : PySem.W.Frag} {H : Hp} {n : Nat} {x : V} (h : plainV x = true) : Deep K H n x x := by
  cases n with
  | zero => exact ⟨rfl, h⟩
  | succ n => exact .inl ⟨rfl, h⟩
theorem Deep.all {K : PySem.W.Frag} {H : Hp} {n : Nat} : ∀ {xs : List V}, xs.all plainV = true → Paired (Deep K H n) xs xs
  | [], _ => .nil
  | x :: xs, h => by
    rw [List.all_cons, Bool.and_eq_true] at h
    exact .cons (Deep.same h.1) (Deep.all h.2)
theorem all_true (k : Nat) : ((List.range k).all fun _ => true) = true := by simp
theorem Room.units8 {k : Nat} {A : Around} (r : Room k A) : A.units + 8 < cLine := by have := r.units; omega
section
variable {X : Cx} {K : PySem.W.Frag} {pins : List (Addr × Obj)} {σ : St} {H : Hp} {s : Shared}
theorem deep_vals {n : Nat} {A : Around} {xs ys : List V} {its jts : List Value} (ih : ∀ {x y : V} {u v : Value}, Deep K H n x y → RelV x u → RelV y v → SeqAt.EqAt A s u v true) (p : Paired (Deep K H n) xs ys) (r1 : Vals xs its) (r2 : Vals ys jts) :
    its.length = jts.length ∧ ∀ j (h1 : j < its.toArray.size) (h2 : j < jts.toArray.size), SeqAt.EqAt A s its.toArray[j] jts.toArray[j] true := by
  have l1 := r1.length
  have l2 := r2.length
  have l3 := Paired.length p
  refine ⟨by omega, fun j h1 h2 => ?_⟩
  have g1 : j < its.length := by simpa using h1
  have g2 : j < jts.length := by simpa using h2
  obtain ⟨y, hy, d⟩ := Mw.paired_get p (i := j) (a := xs[j]'(by omega)) (List.getElem?_eq_getElem (by omega))
  have ey : y = ys[j]'(by omega) := by
    rw [List.getElem?_eq_getElem (by omega)] at hy
    exact (Option.some.inj hy).symm
  subst ey
  exact ih d (vals_at r1 (by omega) g1) (vals_at r2 (by omega) g2)
theorem deep_eqAt (hK : X.K = K) (I : Inv X pins σ H s) : ∀ (n : Nat) {A : Around} {x y : V} {u v : Value}, A.units + n < cLine → Deep K H n x y → RelV x u → RelV y v → SeqAt.EqAt A s u v true := by
  subst hK
  have flat : ∀ {A : Around} {x y : V} {u v : Value}, (x = y ∧ plainV x = true) → RelV x u → RelV y v → SeqAt.EqAt A s u v true := by
    intro A x y u v h r1 r2
    obtain ⟨rfl, hp⟩ := h
    exact eqAt_rel r1 r2 (fun z e => by rw [e] at hp; cases hp) (fun z e => by rw [e] at hp; cases hp)
  intro n
  induction n with
  | zero => intro A x y u v _ h r1 r2; exact flat h r1 r2
  | succ n ih =>
    intro A x y u v hu h r1 r2
    rcases h with h | ⟨a, b, xs, ys, rfl, rfl, hq, p⟩
    · exact flat h r1 r2
    · cases r1
      cases r2
      by_cases hab : a = b
      · subst hab; exact SeqAt.EqAt.same _
      · refine SeqAt.EqAt.of_refs hab ?_
        rcases hq with ⟨ha, hb⟩ | ⟨ha, hb⟩
        · obtain ⟨its, r1, p1, _⟩ := I.list ha
          obtain ⟨jts, r2, p2, _⟩ := I.list hb
          obtain ⟨hl, he⟩ := deep_vals (A := A.in1) (fun d q1 q2 => ih (by show A.units + 1 + n < cLine; omega) d q1 q2) p r1 r2
          have z := SeqAt.RcAt.lists (e := fun _ => true) p1.isList p2.isList (by simpa using hl) (by omega) he
          rw [all_true] at z
          exact z
        · obtain ⟨its, r1, p1, _⟩ := I.tuple ha
          obtain ⟨jts, r2, p2, _⟩ := I.tuple hb
          obtain ⟨hl, he⟩ := deep_vals (A := A.in1) (fun d q1 q2 => ih (by show A.units + 1 + n < cLine; omega) d q1 q2) p r1 r2
          have z := SeqAt.RcAt.tuples (e := fun _ => true) p1 p2 (by omega) he
          rw [all_true, Bool.true_and, List.size_toArray, List.size_toArray, hl, beq_self_eq_true] at z
          exact z
theorem op_eqDeep (n : Nat) (hK : X.K = K) (hu : X.A.units + 8 < cLine) (hn : n ≤ 7) : OpR X (compareOp .Eq) (fun x y H Q => (∃ a b xs ys, x = .ref a ∧ y = .ref b ∧ ((SqL K H a xs ∧ SqL K H b ys) ∨ (SqT K H a xs ∧ SqT K H b ys)) ∧ Paired (Deep K H n) xs ys) ∧ Q (.bl true) H) := by
  subst hK
  intro pins s σ H x y v u Q I rx ry h
  obtain ⟨⟨a, b, xs, ys, rfl, rfl, hq, p⟩, q⟩ := h
  cases rx
  cases ry
  rcases hq with ⟨ha, hb⟩ | ⟨ha, hb⟩
  · obtain ⟨its, r1, p1, _⟩ := I.list ha
    obtain ⟨jts, r2, p2, _⟩ := I.list hb
    obtain ⟨hl, he⟩ := deep_vals (A := X.A.in1) (fun d q1 q2 => deep_eqAt rfl I n (by show X.A.units + 1 + n < cLine; omega) d q1 q2) p r1 r2
    refine SeqAt.RcAt.lists (e := fun _ => true) p1.isList p2.isList (by simpa using hl) (by omega) he _ _ _ _ ?_
    have e : ((List.range its.toArray.size).all fun _ => true) = true := by simp
    rw [e]
    exact ⟨.bl true, H, I, rfl, q⟩
  · obtain ⟨its, r1, p1, _⟩ := I.tuple ha
    obtain ⟨jts, r2, p2, _⟩ := I.tuple hb
    obtain ⟨hl, he⟩ := deep_vals (A := X.A.in1) (fun d q1 q2 => deep_eqAt rfl I n (by show X.A.units + 1 + n < cLine; omega) d q1 q2) p r1 r2
    refine SeqAt.RcAt.tuples (e := fun _ => true) p1 p2 (by omega) he _ _ _ _ ?_
    have e : ((List.range (min its.toArray.size jts.toArray.size)).all (fun _ => true) && its.toArray.size == jts.toArray.size) = true := by simp [hl]
    rw [e]
    exact ⟨.bl true, H, I, rfl, q⟩
end
end L2
set_option Elab.async false
set_option linter.all false
set_option maxRecDepth 100000
set_option maxHeartbeats 4000000
namespace L2
open PySem PySem.Spec PyProof.Rows
theorem FnOk.toX {P : Program} {w : World} {K : PySem.W.Frag} {mg : Str → Option Value} {base : Heap} {CX : CXT} {k : Nat} {f : Addr} {fd : FuncData} {ps : List Str} {sp : Sp} (F : FnOk P w K mg base CX0 k f fd ps sp) : FnOk P w K mg base CX k f fd ps sp :=
  ⟨F.len, fun A outer s H args us vs Q E hr he hb hv hs => codeAny_mono (F.run A outer s H args us vs Q E hr he hb hv hs) fun r s' h => by
    cases r with
    | error e => exact h.elim
    | ok fl => cases fl <;> exact h⟩
theorem Cal.toX {P : Program} {w : World} {K : PySem.W.Frag} {mg : Str → Option Value} {base : Heap} {k : Nat} {x : Str} {ps : List Str} {sp : Sp} (c : Cal P w K mg base k x ps sp) : CalX P w K mg base k x ps sp := by
  obtain ⟨f, fd, F, m, kk, b⟩ := c.ex
  exact ⟨⟨f, fd, F.toX, m, kk, b⟩⟩
def SpOf (C : Addr) (sp : Sp) : Sp := fun vs H Q E => (∃ (a : Addr) (us : List V) (dx : Addr) (fs : List (Str × V)), vs = .ref a :: us ∧ H a = some (.ins C dx fs)) ∧ sp vs H Q E
def SpInit (C : Addr) (sp : Sp) : Sp := fun vs H Q E => ∃ (x dx : Addr) (us : List V) (H1 : Hp), vs = .ref x :: us ∧ H1 x = none ∧ H1 dx = none ∧ dx ≠ x ∧ H = upd (upd H1 dx (.own x)) x (.ins C dx []) ∧ sp us H1 (fun v H2 => v = .ref x → Q .non H2) E
def SpMono (sp : Sp) : Prop := ∀ vs H (Q Q' : VK) E, (∀ v H, Q v H → Q' v H) → sp vs H Q E → sp vs H Q' E
structure NCal (P : Program) (w : World) (K : PySem.W.Frag) (mg : Str → Option Value) (base : Heap) (k : Nat) (x : Str) (ps : List Str) (sp : Sp) : Prop where
  ex : ∃ C f fd, Mk K C f ∧ mg x = some (.ref C) ∧ FnOk P w K mg base (CXE P w) k f fd ps (SpInit C sp) ∧ Binds K fd ps []
  mono : SpMono sp
structure BCal (P : Program) (w : World) (K : PySem.W.Frag) (mg : Str → Option Value) (base : Heap) (k : Nat) (x m : Str) (ps : List Str) (sp : Sp) : Prop where
  ex : ∃ C mc f fd, mg x = some (.ref C) ∧ PySem.W.specialIn K (.ref C) "__getattribute__" = some (some (.builtin "type.__getattribute__")) ∧ PySem.W.readsIn K C mc = true ∧
    PySem.W.findCls K (.ref C) mc m = some (.val (.ref f)) ∧ PySem.W.keepIn K (.ref f) = true ∧ FnOk P w K mg base (CXE P w) k f fd ps sp ∧ Binds K fd ps []
section
variable {X : Cx} {k : Nat} {f C : Addr} {fd : FuncData} {ps : List Str} {sp : Sp} {G : St → XK} {Kd : Addr → Prop} {x m : Str} {p pos apos : Pos} {e o : Expr} {es : List Expr} {ta : TE} {t : TA}
end
theorem comp_range {lo : Int} {n : Nat} {fr : List (Option Nat)} {g : TG} {tc : TT} {te : TE} {D : Addr} {σ : St} {H1 : Hp} {Q : VK} (Pv : Nat → List V → Hp → Prop) (h0 : Pv 0 [] (upd H1 D (.lst [])))
    (hD : ∀ i ys H, i ≤ n → Pv i ys H → H D = some (.lst ys) ∧ ys.length ≤ i) (hn : n ≤ sizeLine)
    (hs : ∀ i ys H, i < n → Pv i ys H → g (.int (lo + i)) (carry fr σ) H fun σ2 H2 => Wk (carry fr σ) σ2 ∧ tc σ2 H2 fun b H3 => if b = true then te σ2 H3 fun y H4 => H4 D = some (.lst ys) ∧ Pv (i + 1) (ys ++ [y]) (upd H4 D (.lst (ys ++ [y]))) else Pv (i + 1) ys H3)
    (hd : ∀ ys H, Pv n ys H → Q (.ref D) H) : tTurns fr g tc te D (Itr lo n) σ H1 Q := by
  refine comp_seq (n := n) Pv h0 hD (fun i ys H hi p => hi) (fun ys H p => Nat.le_refl _) hn (fun i ys H x H' hi p y => ?_) hd
  obtain ⟨e, y⟩ := y
  subst e y
  exact hs i ys _ hi p
structure ClsAt (K : PySem.W.Frag) (mg : Str → Option Value) (x : Str) (C : Addr) : Prop where
  cl : Cls K C
  makes : PySem.W.makesIn K C = true
  kp : PySem.W.keepIn K (.ref C) = true
  g : mg x = some (.ref C)
structure MethAt (K : PySem.W.Frag) (C : Addr) (m qual : Str) (st : Stmt) : Prop where
  ex : ∃ f fd, Meth K C m f ∧ Fun K m qual st f fd
structure BaseAt (K : PySem.W.Frag) (C : Addr) (m qual : Str) (st : Stmt) : Prop where
  ex : ∃ f fd, PySem.W.specialIn K (.ref C) "__getattribute__" = some (some (.builtin "type.__getattribute__")) ∧ PySem.W.readsIn K C (.type "type") = true ∧ PySem.W.findCls K (.ref C) (.type "type") m = some (.val (.ref f)) ∧ Fun K m qual st f fd
structure ExR (K : PySem.W.Frag) (mg : Str → Option Value) (x : Str) (C : Addr) : Prop where
  c : ExcC K C
  g : mg x = some (.ref C)
def BindQ (x qual : Str) (st : Stmt) (ps : List Str) : Prop := ∀ (kV doc pm : Value) (an : Option Addr) (cdv ct : Value) (us : List Value), us.length = ps.length → bindArgs (PySem.W.fnOf x qual (defArgs st) (defBody st) (defScope st) .none kV doc pm an cdv ct) ⟨us, []⟩ = pure (ps.zip us)
section
variable {P : Program} {w : World} {K : PySem.W.Frag} {mg : Str → Option Value} {base : Heap} {C : Addr} {x m qual : Str} {st : Stmt} {ps : List Str} {k : Nat} {sp : Sp}
theorem MethAt.use (h : MethAt K C m qual st) (c : Cls K C) (hb : BindQ m qual st ps) (ok : ∀ f fd, Fun K m qual st f fd → FnOk P w K mg base (CXE P w) k f fd ps (SpOf C sp)) : Cls K C ∧ ∃ f fd, Meth K C m f ∧ FnOk P w K mg base (CXE P w) k f fd ps (SpOf C sp) ∧ Binds K fd ps [] := by
  obtain ⟨f, fd, M, F⟩ := h.ex
  exact ⟨c, f, fd, M, ok f fd F, F.binds hb⟩
theorem ClsAt.new (c : ClsAt K mg x C) (h : MethAt K C "__init__" qual st) (hb : BindQ "__init__" qual st ps) (mo : SpMono sp) (ok : ∀ f fd, Fun K "__init__" qual st f fd → FnOk P w K mg base (CXE P w) k f fd ps (SpInit C sp)) : NCal P w K mg base k x ps sp := by
  obtain ⟨f, fd, M, F⟩ := h.ex
  exact ⟨⟨C, f, fd, ⟨c.makes, M.at_, M.fn, c.kp⟩, c.g, ok f fd F, F.binds hb⟩, mo⟩
theorem BaseAt.use (g : mg x = some (.ref C)) (h : BaseAt K C m qual st) (hb : BindQ m qual st ps) (ok : ∀ f fd, Fun K m qual st f fd → FnOk P w K mg base (CXE P w) k f fd ps sp) : BCal P w K mg base k x m ps sp := by
  obtain ⟨f, fd, h1, h2, h3, F⟩ := h.ex
  exact ⟨⟨C, _, f, fd, g, h1, h2, h3, F.kp, ok f fd F, F.binds hb⟩⟩
end
end L2
set_option Elab.async false
set_option linter.all false
set_option maxRecDepth 100000
set_option maxHeartbeats 4000000
namespace Mw
open PySem L2
def PtsAt (K : PySem.W.Frag) (H : Hp) (as : List Addr) (ps : List (List Int)) : Prop := Paired (fun a p => SqT K H a (p.map V.int)) as ps
theorem PtsAt.same {K : PySem.W.Frag} {H H' : Hp} {as : List Addr} {ps : List (List Int)} (e : Same H H') (h : PtsAt K H as ps) : PtsAt K H' as ps := Paired.mapP h fun _ _ q => e.seqT q
def guessV (z : Int) : V := if z = 0 then .non else .int (if 0 < z then 1 else 0)
end Mw
set_option Elab.async false
set_option linter.all false
set_option maxRecDepth 100000
set_option maxHeartbeats 4000000
namespace Mw
open PySem L2
def NotIns : HO → Prop
  | .ins _ _ _ => False
  | _ => True
structure Kp (S : List Addr) (H H' : Hp) : Prop where
  old : ∀ b o, H b = some o → NotIns o → H' b = some o
  but : ∀ b o, b ∉ S → H b = some o → H' b = some o
  has : ∀ b, H b ≠ none → H' b ≠ none
section
variable {K : PySem.W.Frag} {S S' : List Addr} {H H' H'' : Hp} {a : Addr} {xs : List V} {b : Bool}
theorem Kp.of (e : Same H H') : Kp S H H' := ⟨fun b o h _ => e b o h, fun b o _ h => e b o h, fun b h => by
  cases hb : H b with
  | none => exact absurd hb h
  | some o => rw [e b o hb]; simp⟩
theorem Kp.refl : Kp S H H := ⟨fun _ _ h _ => h, fun _ _ _ h => h, fun _ h => h⟩
theorem Kp.trans (h1 : Kp S H H') (h2 : Kp S H' H'') : Kp S H H'' := ⟨fun b o h n => h2.old b o (h1.old b o h n) n, fun b o n h => h2.but b o n (h1.but b o n h), fun b h => h2.has b (h1.has b h)⟩
theorem Kp.mono (h : Kp S H H') (m : ∀ x ∈ S, x ∈ S') : Kp S' H H' := ⟨h.old, fun b o n => h.but b o fun z => n (m b z), h.has⟩
theorem Kp.free (h : Kp S H H') (n : H' a = none) : H a = none := by
  cases e : H a with
  | none => rfl
  | some o => exact absurd n (h.has a (by rw [e]; simp))
theorem Kp.lst (h : Kp S H H') (e : H a = some (.lst xs)) : H' a = some (.lst xs) := h.old _ _ e True.intro
theorem Kp.tup (h : Kp S H H') (e : H a = some (.tup xs)) : H' a = some (.tup xs) := h.old _ _ e True.intro
theorem Kp.seq (h : Kp S H H') (e : SqL K H a xs) : SqL K H' a xs := by
  rcases e with (e | ⟨o, e⟩) | e
  · exact .inl (.inl (h.old _ _ e True.intro))
  · exact .inl (.inr ⟨o, h.old _ _ e True.intro⟩)
  · exact .inr e
theorem Kp.seqT (h : Kp S H H') (e : SqT K H a xs) : SqT K H' a xs := by
  rcases e with (e | ⟨o, e⟩) | e
  · exact .inl (.inl (h.old _ _ e True.intro))
  · exact .inl (.inr ⟨o, h.old _ _ e True.intro⟩)
  · exact .inr e
theorem Kp.seqB (h : Kp S H H') (e : SqB K b H a xs) : SqB K b H' a xs := by
  cases b
  · exact h.seq e
  · exact h.seqT e
theorem Kp.rows {as : List Addr} {rs : List (List Int × Int)} (h : Kp S H H') (e : RowsAt K H as rs) : RowsAt K H' as rs := Paired.mapP e fun _ _ ⟨p, q1, q2⟩ => ⟨p, h.seqT q1, h.seqT q2⟩
theorem Kp.new {o : HO} (h : Kp S H H') (n : H' a = none) : Kp S H (upd H' a o) := h.trans (Kp.of (Same.new n o))
theorem Kp.upd_old {o : HO} (h : Kp S H H') (n : H a = none) : Kp S H (upd H' a o) := by
  refine ⟨fun b u hb m => ?_, fun b u m hb => ?_, fun b hb => ?_⟩
  · rw [upd_ne (ne_of_none hb n)]; exact h.old b u hb m
  · rw [upd_ne (ne_of_none hb n)]; exact h.but b u m hb
  · by_cases z : b = a
    · rw [z, upd_same]; simp
    · rw [upd_ne z]; exact h.has b hb
end
structure Hnd where
  /-- 0: mends nothing; 1: plain; 2: with a margin -/
  kd : Nat
  mg : Int
  many : Nat
  ws : List Int
  err : Nat
namespace Hnd
def prod (h : Hnd) (p : List Int) : Int := dot h.ws (p ++ [1])
def wrong (h : Hnd) (p : List Int) (s : Int) : Bool := if h.kd = 2 then decide ((2 * s - 1) * h.prod p ≤ h.mg) else decide (guessV (h.prod p) ≠ V.int s)
def mend (ws p : List Int) (s : Int) : List Int := List.zipWith (fun w x => w + (2 * s - 1) * x) ws (p ++ [1])
def step (h : Hnd) (p : List Int) (s : Int) : Hnd := if h.wrong p s = true then { h with ws := if h.kd = 0 then h.ws else mend h.ws p s, err := h.err + 1 } else h
def new (kd : Nat) (mg : Int) (many : Nat) : Hnd := ⟨kd, mg, many, List.replicate (many + 1) 0, 0⟩
structure Ok (h : Hnd) : Prop where
  k3 : h.kd < 3
  pos : 0 < h.many
  few : h.many ≤ 4
  len : h.ws.length = h.many + 1
  low : ∀ w ∈ h.ws, w.natAbs ≤ 1000 * h.err
structure PtOk (h : Hnd) (p : List Int) : Prop where
  len : p.length = h.many
  low : ∀ x ∈ p, -1000 ≤ x ∧ x ≤ 1000
theorem low_snoc {p : List Int} (h : ∀ x ∈ p, -1000 ≤ x ∧ x ≤ 1000) : ∀ x ∈ p ++ [1], -1000 ≤ x ∧ x ≤ 1000 := fun x hx => by
  rcases List.mem_append.mp hx with z | z
  · exact h x z
  · rw [List.mem_singleton.mp z]; decide
theorem mend_mem {s : Int} (hs : s = 0 ∨ s = 1) {n : Nat} : ∀ {ws xs : List Int}, (∀ w ∈ ws, w.natAbs ≤ n) → (∀ x ∈ xs, -1000 ≤ x ∧ x ≤ 1000) → ∀ z ∈ List.zipWith (fun w x => w + (2 * s - 1) * x) ws xs, z.natAbs ≤ n + 1000
  | [], _, _, _, z, hz => by simp at hz
  | _ :: _, [], _, _, z, hz => by simp at hz
  | w :: ws, x :: xs, h1, h2, z, hz => by
    rw [List.zipWith_cons_cons] at hz
    rcases List.mem_cons.mp hz with e | e
    · have a1 := h1 w (List.mem_cons_self ..)
      have a2 := h2 x (List.mem_cons_self ..)
      rcases hs with rfl | rfl
      · have : (2 * 0 - 1 : Int) * x = -x := by omega
        rw [e, this]; omega
      · have : (2 * 1 - 1 : Int) * x = x := by omega
        rw [e, this]; omega
    · exact mend_mem hs (fun w hw => h1 w (List.mem_cons_of_mem _ hw)) (fun x hx => h2 x (List.mem_cons_of_mem _ hx)) z e
theorem mend_len {ws p : List Int} {s : Int} (h : ws.length = p.length + 1) : (mend ws p s).length = p.length + 1 := by
  unfold mend
  rw [List.length_zipWith, List.length_append, h]
  exact Nat.min_self _
theorem Ok.step {h : Hnd} {p : List Int} {s : Int} (o : Ok h) (q : PtOk h p) (hs : s = 0 ∨ s = 1) : Ok (h.step p s) := by
  unfold Hnd.step
  split
  · refine ⟨o.k3, o.pos, o.few, ?_, fun w hw => ?_⟩
    · show (if h.kd = 0 then h.ws else mend h.ws p s).length = _
      split
      · exact o.len
      · rw [mend_len (by rw [o.len, q.len]), q.len]
    · show w.natAbs ≤ 1000 * (h.err + 1)
      have hw' : w ∈ (if h.kd = 0 then h.ws else mend h.ws p s) := hw
      split at hw'
      · have := o.low w hw'; omega
      · have := mend_mem hs o.low (low_snoc q.low) w hw'; omega
  · exact o
end Hnd
structure HandI where
  At : Hp → Addr → Hnd → Prop
  Kd : Addr → Prop
  ins : ∀ {H a h}, At H a h → ∃ C dx fs, H a = some (.ins C dx fs) ∧ Kd C ∧ fs.lookup ("tells" : Str) = none ∧ fs.lookup ("put" : Str) = none ∧ fs.lookup ("weights" : Str) = none ∧ fs.lookup ("mistakes" : Str) = none
  keep : ∀ {S H H' a h}, At H a h → Kp S H H' → a ∉ S → At H' a h
section
variable (K : PySem.W.Frag) (I : HandI) (np ns : Addr)
end
end Mw
namespace Mw
open PySem L2
end Mw
namespace Mw
open PySem L2
end Mw
namespace Mw
open PySem L2
end Mw
namespace Mw
open PySem L2
end Mw
set_option Elab.async false
set_option linter.all false
set_option maxRecDepth 100000
set_option maxHeartbeats 4000000
namespace L2
open PySem PySem.Spec PyProof.Rows
def OffD (D : Addr) (H H' : Hp) : Prop := ∀ b o, b ≠ D → H b = some o → H' b = some o
theorem OffD.of {D : Addr} {H H' : Hp} (s : Same H H') : OffD D H H' := fun b o _ h => s b o h
theorem OffD.upd {D : Addr} {H : Hp} {o : HO} : OffD D H (upd H D o) := fun b u n h => by rw [upd_ne n]; exact h
section
variable {K : PySem.W.Frag} {fr : List (Option Nat)} {g : TG} {te : TE} {D : Addr} {σ : St} {H1 : Hp} {Q : VK}
theorem snoc_get {ys : List V} {z : V} {P : Nat → V → Prop} (h : ∀ (j : Nat) y, ys[j]? = some y → P j y) (hz : P ys.length z) : ∀ (j : Nat) y, (ys ++ [z])[j]? = some y → P j y := fun j y e => by
  by_cases hj : j < ys.length
  · rw [List.getElem?_append_left hj] at e; exact h j y e
  · have h2 : j = ys.length := by
      have := (List.getElem?_eq_some_iff.mp e).1
      rw [List.length_append] at this
      simp at this
      omega
    subst h2
    rw [List.getElem?_append_right (Nat.le_refl _), Nat.sub_self] at e
    have : z = y := by simpa using e
    rw [← this]; exact hz
theorem comp_list_rel {a : Addr} {xs : List V} (Rl : Hp → Nat → V → Prop) (mono : ∀ H H' i y, OffD D H H' → Rl H i y → Rl H' i y) (hq : SqL K H1 a xs) (hn : xs.length ≤ sizeLine) (hD : H1 D = none)
    (hs : ∀ (i : Nat) x H (R : VK), xs[i]? = some x → Same H1 H → H D ≠ none → (∀ y H', Same H H' → Rl H' i y → R y H') → g x (carry fr σ) H fun σ2 H2 => Wk (carry fr σ) σ2 ∧ te σ2 H2 R)
    (q : ∀ ys H', Same H1 H' → H' D = some (.lst ys) → ys.length = xs.length → (∀ (j : Nat) y, ys[j]? = some y → Rl H' j y) → Q (.ref D) H') : tTurns fr g tYes te D (Itl K a) σ H1 Q := by
  refine comp_list (xs := xs) (fun i ys H => Same H1 H ∧ H D = some (.lst ys) ∧ ys.length = i ∧ ∀ (j : Nat) y, ys[j]? = some y → Rl H j y) ⟨Same.new hD _, upd_same, rfl, fun j y e => by simp at e⟩
    (fun i ys H hi ⟨_, e, p, _⟩ => ⟨e, by omega⟩) (fun i ys H hi ⟨e, _, _⟩ => e.seq hq) hn ?_ (fun ys H ⟨e1, e2, e3, e4⟩ => q ys H e1 e2 e3 e4)
  rintro i x ys H hx ⟨e1, e2, e3, e4⟩
  refine hs i x H _ hx e1 (by rw [e2]; simp) (fun y H' s r => ⟨s _ _ e2, (e1.trans s).upd_old hD, upd_same, by rw [List.length_append, e3]; rfl, ?_⟩)
  exact snoc_get (fun j u e => mono _ _ _ _ OffD.upd (mono _ _ _ _ (OffD.of s) (e4 j u e))) (by rw [e3]; exact mono _ _ _ _ OffD.upd r)
theorem comp_range_rel {lo : Int} {n : Nat} (Rl : Hp → Nat → V → Prop) (mono : ∀ H H' i y, OffD D H H' → Rl H i y → Rl H' i y) (hn : n ≤ sizeLine) (hD : H1 D = none)
    (hs : ∀ (i : Nat) H (R : VK), i < n → Same H1 H → H D ≠ none → (∀ y H', Same H H' → Rl H' i y → R y H') → g (.int (lo + i)) (carry fr σ) H fun σ2 H2 => Wk (carry fr σ) σ2 ∧ te σ2 H2 R)
    (q : ∀ ys H', Same H1 H' → H' D = some (.lst ys) → ys.length = n → (∀ (j : Nat) y, ys[j]? = some y → Rl H' j y) → Q (.ref D) H') : tTurns fr g tYes te D (Itr lo n) σ H1 Q := by
  refine comp_range (n := n) (fun i ys H => Same H1 H ∧ H D = some (.lst ys) ∧ ys.length = i ∧ ∀ (j : Nat) y, ys[j]? = some y → Rl H j y) ⟨Same.new hD _, upd_same, rfl, fun j y e => by simp at e⟩
    (fun i ys H hi ⟨_, e, p, _⟩ => ⟨e, by omega⟩) hn ?_ (fun ys H ⟨e1, e2, e3, e4⟩ => q ys H e1 e2 e3 e4)
  rintro i ys H hi ⟨e1, e2, e3, e4⟩
  refine hs i H _ hi e1 (by rw [e2]; simp) (fun y H' s r => ⟨s _ _ e2, (e1.trans s).upd_old hD, upd_same, by rw [List.length_append, e3]; rfl, ?_⟩)
  exact snoc_get (fun j u e => mono _ _ _ _ OffD.upd (mono _ _ _ _ (OffD.of s) (e4 j u e))) (by rw [e3]; exact mono _ _ _ _ OffD.upd r)
theorem comp_zip_rel {b1 b2 : Bool} {a1 a2 : Addr} {us vs : List V} (Rl : Hp → Nat → V → Prop) (mono : ∀ H H' i y, OffD D H H' → Rl H i y → Rl H' i y) (h1 : SqB K b1 H1 a1 us) (h2 : SqB K b2 H1 a2 vs) (hn : us.length ≤ sizeLine) (hD : H1 D = none)
    (hs : ∀ (i : Nat) x y T H (R : VK), us[i]? = some x → vs[i]? = some y → Same H1 H → H D ≠ none → H T = none → (∀ z H', Same (upd H T (.tup [x, y])) H' → Rl H' i z → R z H') → g (.ref T) (carry fr σ) (upd H T (.tup [x, y])) fun σ2 H2 => Wk (carry fr σ) σ2 ∧ te σ2 H2 R)
    (q : ∀ ys H', Same H1 H' → H' D = some (.lst ys) → ys.length = min us.length vs.length → (∀ (j : Nat) y, ys[j]? = some y → Rl H' j y) → Q (.ref D) H') : tTurns fr g tYes te D (Itz K b1 b2 a1 a2) σ H1 Q := by
  refine comp_zip (us := us) (vs := vs) (fun i ys H => Same H1 H ∧ H D = some (.lst ys) ∧ ys.length = i ∧ ∀ (j : Nat) y, ys[j]? = some y → Rl H j y) ⟨Same.new hD _, upd_same, rfl, fun j y e => by simp at e⟩
    (fun i ys H hi ⟨_, e, p, _⟩ => ⟨e, by omega⟩) (fun i ys H hi ⟨e, _, _⟩ => ⟨e.seqB h1, e.seqB h2⟩) hn ?_ (fun ys H ⟨e1, e2, e3, e4⟩ => q ys H e1 e2 e3 e4)
  rintro i x y T ys H hx hy hT ⟨e1, e2, e3, e4⟩
  refine hs i x y T H _ hx hy e1 (by rw [e2]; simp) hT (fun z H' s r => ⟨s _ _ (by rw [upd_ne (ne_of_none e2 hT)]; exact e2), ((e1.trans (Same.new hT _)).trans s).upd_old hD, upd_same, by rw [List.length_append, e3]; rfl, ?_⟩)
  exact snoc_get (fun j u e => mono _ _ _ _ OffD.upd (mono _ _ _ _ (OffD.of ((Same.new hT _).trans s)) (e4 j u e))) (by rw [e3]; exact mono _ _ _ _ OffD.upd r)
end
theorem wk1 {σ : St} {v : V} {n : Nat} {w : V} (h : σ[n]? = some (some w)) : Wk (carry [none, some n] σ) [some v, some w] := by
  refine ⟨rfl, fun k u e => ?_⟩
  have e0 : carry [none, some n] σ = [none, some w] := by simp [carry, h]
  rw [e0] at e
  match k, e with
  | 0, e => simp at e
  | 1, e => exact e
  | k + 2, e => simp at e
section
variable {X : Cx}
theorem call_maxL (hc : X.calm = true) : CallR X (.builtin "max") (fun xs H Q => ∃ (a : Addr) (ns : List Int), xs = [.ref a] ∧ SqL X.K H a (ns.map V.int) ∧ 0 < ns.length ∧ ∀ m, m ∈ ns → (∀ b ∈ ns, b ≤ m) → Q (.int m) H) := by
  intro pins s σ H xs us Q I r h
  obtain ⟨a, ns, rfl, hs, hn, q⟩ := h
  obtain ⟨u, rfl, r1⟩ := vals1 r
  obtain rfl : u = Value.ref a := r1
  obtain ⟨its, rv, p, hz⟩ := I.list hs
  obtain ⟨zs, e⟩ := (intsAre_of rv).allInts.items
  have hns : ns = zs.toList.map (·.1) := by rw [← (intsAre_of rv).numsOf, ← nums_intItems, ← e]
  have hsz : 0 < zs.size := by have h3 := hn; rw [hns, List.length_map, Array.length_toList] at h3; exact h3
  have hl := p.isList
  rw [e] at hl
  refine max_intList (I.ok.hd hc) hl hsz fun v h' tk hv hk => ?_
  obtain ⟨t, rfl⟩ := intItems_at hv
  obtain ⟨h1, h2⟩ := argBest_gt (numAt zs) (zs.size - 1)
  have e3 : ∀ k, k < zs.size → numAt zs k ∈ ns := fun k hk => by
    rw [hns]
    refine List.mem_map.mpr ⟨zs[k], by simp, ?_⟩
    simp [numAt, hk]
  have e4 : ∀ b ∈ ns, ∃ k, k < zs.size ∧ numAt zs k = b := fun b hb => by
    rw [hns] at hb
    obtain ⟨y, hy, rfl⟩ := List.mem_map.mp hb
    obtain ⟨k, hk, hk2⟩ := List.getElem_of_mem hy
    have hk' : k < zs.size := by simpa using hk
    refine ⟨k, hk', ?_⟩
    simp [numAt, hk', ← hk2]
  refine ⟨.int (numAt zs (argBest (fun i j => decide (numAt zs i > numAt zs j)) (zs.size - 1))), H, I.kept hk, ⟨_, rfl⟩, q _ (e3 _ (by omega)) fun b hb => ?_⟩
  obtain ⟨k, hk1, rfl⟩ := e4 b hb
  exact h2 k (by omega)
end
section
variable {X : Cx} {scope : Scope} {NB : List Str} {fr : List (Option Nat)} {elt tg iter : Expr} {ifs : List Expr} {pos : Pos} {wi : TI} {g : TG} {tc : TT} {te : TE}
end
section
variable {X : Cx} {K : PySem.W.Frag} {tg l : Expr} {tl ta : TE} {e : Expr} {f : Str} {pos : Pos}
end
end L2
namespace Mw
open PySem L2
end Mw
namespace Mw
open PySem L2
theorem rows_of {K : PySem.W.Frag} {H : Hp} : ∀ {ys : List V} {rs : List (List Int × Int)}, ys.length = rs.length → (∀ (j : Nat) y r, ys[j]? = some y → rs[j]? = some r → ∃ t p, y = .ref t ∧ SqT K H t [.ref p, .int r.2] ∧ SqT K H p (r.1.map V.int)) → ∃ as : List Addr, ys = as.map V.ref ∧ RowsAt K H as rs
  | [], [], _, _ => ⟨[], rfl, .nil⟩
  | y :: ys, r :: rs, hl, h => by
    obtain ⟨t, p, e, h1, h2⟩ := h 0 y r rfl rfl
    obtain ⟨as, e2, h3⟩ := rows_of (ys := ys) (rs := rs) (by simpa using hl) fun j y r a b => h (j + 1) y r (by simpa using a) (by simpa using b)
    exact ⟨t :: as, by rw [e, e2]; rfl, .cons ⟨p, h1, h2⟩ h3⟩
end Mw
set_option Elab.async false
set_option linter.all false
set_option maxRecDepth 100000
set_option maxHeartbeats 4000000
namespace L2
open PySem PySem.Spec PyProof.Rows
section
variable {X : Cx} {C : Addr} {G : St → XK} {x : Str} {np cpos pos : Pos}
end
section
variable {K : PySem.W.Frag} {fr : List (Option Nat)} {g : TG} {tc : TT} {te : TE} {D : Addr} {σ : St} {H1 : Hp} {Q : VK}
end
end L2
namespace Mw
open PySem L2
structure HandG (S : Type) where
  At : Hp → Addr → S → Prop
  Kd : Addr → Prop
  ins : ∀ {H a h}, At H a h → ∃ C dx fs, H a = some (.ins C dx fs) ∧ Kd C ∧ fs.lookup ("tells" : Str) = none ∧ fs.lookup ("put" : Str) = none ∧ fs.lookup ("weights" : Str) = none ∧ fs.lookup ("mistakes" : Str) = none
  keep : ∀ {L H H' a h}, At H a h → Kp L H H' → a ∉ L → At H' a h
  /-- a list that isn't the hand's is written to -/
  keepL : ∀ {H H' a h D xs}, At H a h → H D = some (.lst xs) → OffD D H H' → At H' a h
end Mw
namespace L2
open PySem PySem.Spec PyProof.Rows
end L2
set_option Elab.async false
set_option linter.all false
set_option maxRecDepth 100000
set_option maxHeartbeats 4000000
namespace L2
open PySem PySem.Spec PyProof.Rows
section
variable {X : Cx} {K : PySem.W.Frag}
theorem op_inK (hK : X.K = K) : OpR X (compareOp .In) (rIn K false) := by subst hK; exact op_in_seq
end
end L2
set_option Elab.async false
set_option linter.all false
set_option maxRecDepth 100000
set_option maxHeartbeats 4000000
namespace L2
open PySem PySem.Spec PyProof.Rows PySem.AutoSeq1
end L2
set_option Elab.async false
set_option linter.all false
set_option maxRecDepth 100000
set_option maxHeartbeats 4000000
namespace L2
open PySem PySem.Spec PyProof.Rows
def KeysInt : List DictEntry → List (Int × Int) → Prop
  | [], [] => True
  | e :: r, p :: q => (∃ t, e.key = .int p.1 t) ∧ (∃ t, e.val = .int p.2 t) ∧ e.hash = hashInt p.1 ∧ KeysInt r q
  | _, _ => False
structure TabI (K : PySem.W.Frag) (a : Addr) (kvs : List (Int × Int)) : Prop where
  lo : (a == sysModules) = false
  ex : ∃ (es : List DictEntry) (n : Nat), K.lookup a = some ⟨.type "dict", none, .dict es.toArray n, #[]⟩ ∧ KeysInt es kvs
theorem tabI_of {K : PySem.W.Frag} {a : Addr} {kvs : List (Int × Int)} {es : List DictEntry} {n : Nat} (lo : (a == sysModules) = false) (l : K.lookup a = some ⟨.type "dict", none, .dict es.toArray n, #[]⟩) (k : KeysInt es kvs) : TabI K a kvs := ⟨lo, es, n, l, k⟩
theorem KeysInt.all : ∀ {es : List DictEntry} {kvs : List (Int × Int)}, KeysInt es kvs → ∀ e ∈ es, ∃ i t, e.key = .int i t ∧ e.hash = hashInt i
  | _ :: _, _ :: _, ⟨⟨t, k⟩, _, h, _⟩, _, .head _ => ⟨_, t, k, h⟩
  | _ :: _, _ :: _, ⟨_, _, _, r⟩, _, .tail _ m => r.all _ m
theorem KeysInt.find : ∀ {es : List DictEntry} {kvs : List (Int × Int)}, KeysInt es kvs → ∀ k : Int, (kvs.lookup k = none → (es.find? fun e => Value.isInt k e.key) = none) ∧ ∀ v, kvs.lookup k = some v → ∃ e t, (es.find? fun e => Value.isInt k e.key) = some e ∧ e.val = .int v t
  | [], [], _, k => ⟨fun _ => rfl, fun v h => by cases h⟩
  | [], _ :: _, h, _ => h.elim
  | _ :: _, [], h, _ => h.elim
  | e :: es, (i, j) :: kvs, ⟨⟨t, hk⟩, ⟨t', hv⟩, _, r⟩, k => by
    have ih := KeysInt.find r k
    have e0 : Value.isInt k e.key = (i == k) := by rw [hk]; rfl
    by_cases z : i = k
    · subst z
      have e1 : Value.isInt i e.key = true := by rw [e0]; simp
      refine ⟨fun h => ?_, fun v h => ⟨e, t', ?_, ?_⟩⟩
      · rw [List.lookup_cons, show (i == i) = true by simp] at h; cases h
      · rw [List.find?_cons, e1]
      · rw [List.lookup_cons, show (i == i) = true by simp] at h
        rw [hv, Option.some.inj h]
    · have e1 : Value.isInt k e.key = false := by rw [e0]; simp [z]
      have e2 : (k == i) = false := by simp; exact fun y => z y.symm
      rw [List.lookup_cons, e2, List.find?_cons, e1]
      exact ih
section
variable {X : Cx} {K : PySem.W.Frag}
theorem TabI.map {a : Addr} {kvs : List (Int × Int)} {P : Program} {w : World} {h : Heap} (T : TabI K a kvs) (x : K.In h) : ∃ f, h.MapOf (intKind P w) a f ∧ ∀ k, (kvs.lookup k = none → f k = none) ∧ ∀ v, kvs.lookup k = some v → ∃ t, f k = some (.int v t) := by
  obtain ⟨es, n, hl, hk⟩ := T.ex
  refine ⟨fun k => findBy Value.isInt es.toArray k, ⟨_, es.toArray, n, x _ _ hl, ⟨rfl, rfl, rfl⟩, rfl, fun e he => ?_, fun _ => rfl⟩, fun k => ⟨fun h => ?_, fun v h => ?_⟩⟩
  · obtain ⟨i, t, e1, e2⟩ := hk.all e (by simpa using he)
    exact ⟨i, by rw [e1]; exact intKind_is P w i t, e2⟩
  · show (es.toArray.find? fun e => Value.isInt k e.key).map (·.val) = none
    rw [List.find?_toArray, (hk.find k).1 h]; rfl
  · obtain ⟨e, t, e1, e2⟩ := (hk.find k).2 v h
    refine ⟨t, ?_⟩
    show (es.toArray.find? fun e => Value.isInt k e.key).map (·.val) = some (.int v t)
    rw [List.find?_toArray, e1, ← e2]; rfl
def rNotInTab (K : PySem.W.Frag) : R2 := fun x y H Q => ∃ (i : Int) (a : Addr) (kvs : List (Int × Int)), x = .int i ∧ y = .ref a ∧ TabI K a kvs ∧ (kvs.lookup i = none → Q (.bl true) H) ∧ ∀ v, kvs.lookup i = some v → Q (.bl false) H
theorem op_notInTab (hK : X.K = K) : OpR X (compareOp .NotIn) (rNotInTab K) := by
  subst hK
  intro pins s σ H x y v u Q I rx ry h
  obtain ⟨i, a, kvs, rfl, rfl, T, q1, q2⟩ := h
  obtain ⟨t, rfl⟩ := rx
  cases ry
  obtain ⟨f, hm, hf⟩ := T.map (P := X.prog) (w := X.w) I.kIn
  refine wpAny_notIn_of (intKind_is X.prog X.w i t) T.lo hm ?_
  cases e : kvs.lookup i with
  | none =>
    rw [(hf i).1 e]
    exact ⟨.bl true, H, I.tok _, rfl, q1 e⟩
  | some v =>
    obtain ⟨t', e'⟩ := (hf i).2 v e
    rw [e']
    exact ⟨.bl false, H, I.tok _, rfl, q2 v e⟩
def rIxTab (K : PySem.W.Frag) : R2 := fun x y H Q => ∃ (a : Addr) (kvs : List (Int × Int)) (i v : Int), x = .ref a ∧ y = .int i ∧ TabI K a kvs ∧ kvs.lookup i = some v ∧ Q (.int v) H
theorem ix_tab (hK : X.K = K) : IxR X (rIxTab K) := by
  subst hK
  intro value slice pins s σ H x y v u Q I rx ry h hs
  obtain ⟨a, kvs, i, z, rfl, rfl, T, e, q⟩ := h
  cases rx
  obtain ⟨t, rfl⟩ := ry
  obtain ⟨f, hm, hf⟩ := T.map (P := X.prog) (w := X.w) I.kIn
  obtain ⟨t', e'⟩ := (hf i).2 z e
  exact tail_any hm.typeIs slot_dict_getitem.lookup (wpAny_getItem_of (intKind_is X.prog X.w i t) hm e' ⟨.int z, H, I.tok _, ⟨_, rfl⟩, q⟩) hs
def rCatA (K : PySem.W.Frag) : R2 := fun x y H Q => ∃ a b xs ys, x = .ref a ∧ y = .ref b ∧ SqT K H a xs ∧ H b = some (.tup ys) ∧ ys ≠ [] ∧ xs.length + ys.length ≤ sizeLine ∧ ∀ r H', Same H H' → (r = b ∨ H r = none) → H' r = some (.tup (xs ++ ys)) → Q (.ref r) H'
theorem op_catA (hK : X.K = K) : OpR X (binaryOp .Add) (rCatA K) := by
  subst hK
  intro pins s σ H x y v u Q I rx ry h
  obtain ⟨a, b, xs, ys, rfl, rfl, ha, hb, hy, hz, q⟩ := h
  cases rx
  cases ry
  obtain ⟨its, r1, p1, _⟩ := I.tuple ha
  obtain ⟨its2, r2, p2, _⟩ := I.tuple (SqT.of (K := X.K) hb)
  by_cases hx : xs = []
  · subst hx
    obtain rfl := r1.nil_iff.mpr rfl
    obtain ⟨⟨cls, dd, data, sl⟩, ho, hc, n, hd⟩ := id p1
    obtain ⟨⟨cls2, dd2, data2, sl2⟩, ho2, hc2, n2, hd2⟩ := id p2
    simp only at hc hd hc2 hd2
    subst hc hd hc2 hd2
    exact concat_meets ⟨_, ho, rfl⟩ ⟨_, ho2, rfl⟩ noFill_tuple_add seq_tuple_add PySem.F.slot_tuple_add PySem.F.entry_tuple_add (PySem.F.args_tuple_add_2 _ _)
      (tuple_addW0 a b _ _ n n2 dd dd2 sl sl2 (by simp)) ⟨ho, ho2, ⟨.ref b, H, I, rfl, q b H (Same.refl _) (.inl rfl) hb⟩⟩
  · refine HT.cat_tup p1 p2 (fun z => hx (r1.nil_iff.mp z)) (fun z => absurd (r2.nil_iff.mp z) hy) (fun z => ?_) (by rw [← r1.length, ← r2.length]; exact hz)
    have hf : H s.heap.objs.size = none := I.hok.fresh (Nat.le_refl _)
    refine ⟨.ref s.heap.objs.size, _, I.laid (t' := s.toks) (o := .tup (xs ++ ys)) (fun b ob q => Heap.get?_push_of_some _ q) (Nat.le_refl _) ?_, rfl, q _ _ (Same.new hf _) (.inr hf) upd_same⟩
    exact ⟨by rw [List.length_append]; exact hz, _, r1.append r2, IsTup.new _ _⟩
end
end L2
set_option Elab.async false
set_option linter.all false
set_option maxRecDepth 100000
set_option maxHeartbeats 4000000
namespace Mw
def mv (c : Int) (ws xs : List Int) : List Int := List.zipWith (fun w x => w + c * x) ws xs
theorem mv_cons (c w x : Int) (ws xs : List Int) : mv c (w :: ws) (x :: xs) = (w + c * x) :: mv c ws xs := by unfold mv; rw [List.zipWith_cons_cons]
end Mw
set_option Elab.async false
set_option linter.all false
set_option maxRecDepth 100000
set_option maxHeartbeats 4000000
namespace Mw
open PySem L2
def topI : List Int → Int
  | [] => 0
  | [x] => x
  | x :: y :: r => if topI (y :: r) ≤ x then x else topI (y :: r)
theorem topI_mem : ∀ {ps : List Int}, ps ≠ [] → topI ps ∈ ps
  | [], h => absurd rfl h
  | [x], _ => by simp [topI]
  | x :: y :: r, _ => by
    have ih := topI_mem (ps := y :: r) (by simp)
    unfold topI
    split
    · simp
    · exact List.mem_cons_of_mem _ ih
def bestS (ps : List Int) : List Nat := (List.range ps.length).filter fun j => decide (ps.getD j 0 = topI ps)
def guessS (ps : List Int) : V := if 1 < (bestS ps).length then .non else .int (((bestS ps).headD 0 : Nat) : Int)
def othersS (n : Nat) (s : Int) : List Nat := (List.range n).filter fun j => decide ((j : Int) ≠ s)
def rivalS (ps : List Int) (s : Int) : Nat := ((othersS ps.length s).filter fun j => decide (ps.getD j 0 = topI ((othersS ps.length s).map fun j => ps.getD j 0))).headD 0
theorem others_lt {n : Nat} {s : Int} {j : Nat} (h : j ∈ othersS n s) : j < n := List.mem_range.mp (List.mem_filter.mp h).1
def WsAt (K : PySem.W.Frag) (H : Hp) (as : List Addr) (wss : List (List Int)) : Prop := Paired (fun a ws => H a = some (.lst (ws.map V.int))) as wss
def TsAt (H : Hp) (as : List Addr) (wss : List (List Int)) : Prop := Paired (fun a ws => H a = some (.tup (ws.map V.int))) as wss
theorem TsAt.same {H H' : Hp} {as : List Addr} {wss : List (List Int)} (e : Same H H') (h : TsAt H as wss) : TsAt H' as wss := Paired.mapP h fun _ _ q => e _ _ q
structure Snd where
  many : Nat
  sides : Nat
  ws : List (List Int)
  err : Nat
namespace Snd
def prods (h : Snd) (p : List Int) : List Int := h.ws.map fun w => dot w (p ++ [1])
def wrong (h : Snd) (p : List Int) (s : Nat) : Bool := decide (guessS (h.prods p) ≠ V.int s)
def mend (wss : List (List Int)) (ps : List Int) (p : List Int) (s : Nat) : List (List Int) :=
  let a := wss.set s (mv 1 (wss.getD s []) (p ++ [1]))
  a.set (rivalS ps s) (mv (-1) (a.getD (rivalS ps s) []) (p ++ [1]))
def step (h : Snd) (p : List Int) (s : Nat) : Snd := if h.wrong p s = true then { h with ws := mend h.ws (h.prods p) p s, err := h.err + 1 } else h
def new (many sides : Nat) : Snd := ⟨many, sides, List.replicate sides (List.replicate (many + 1) 0), 0⟩
structure Ok (h : Snd) : Prop where
  pos : 0 < h.many
  few : h.many ≤ 4
  two : 2 ≤ h.sides
  five : h.sides ≤ 5
  len : h.ws.length = h.sides
  lens : ∀ w ∈ h.ws, w.length = h.many + 1
  low : ∀ w ∈ h.ws, ∀ x ∈ w, x.natAbs ≤ 2000 * h.err
structure PtOk (h : Snd) (p : List Int) : Prop where
  len : p.length = h.many
  low : ∀ x ∈ p, -1000 ≤ x ∧ x ≤ 1000
end Snd
section
variable (K : PySem.W.Frag) (I : HandG Snd) (np ns : Addr)
end
theorem rivalS_lt {ps : List Int} {s : Int} (h : othersS ps.length s ≠ []) : rivalS ps s < ps.length ∧ (rivalS ps s : Int) ≠ s := by
  have hfn : ((othersS ps.length s).filter fun j => decide (ps.getD j 0 = topI ((othersS ps.length s).map fun j => ps.getD j 0))) ≠ [] := fun z => by
    obtain ⟨j, hj1, hj2⟩ := List.mem_map.mp (topI_mem (ps := (othersS ps.length s).map fun j => ps.getD j 0) (by simpa using h))
    have : j ∈ ((othersS ps.length s).filter fun j => decide (ps.getD j 0 = topI ((othersS ps.length s).map fun j => ps.getD j 0))) := List.mem_filter.mpr ⟨hj1, by simpa using hj2⟩
    rw [z] at this
    simp at this
  have hm : rivalS ps s ∈ othersS ps.length s := by
    unfold rivalS
    cases e : ((othersS ps.length s).filter fun j => decide (ps.getD j 0 = topI ((othersS ps.length s).map fun j => ps.getD j 0))) with
    | nil => exact absurd e hfn
    | cons j r =>
      have : j ∈ ((othersS ps.length s).filter fun j => decide (ps.getD j 0 = topI ((othersS ps.length s).map fun j => ps.getD j 0))) := by rw [e]; simp
      exact (List.mem_filter.mp this).1
  exact ⟨others_lt hm, by have := (List.mem_filter.mp hm).2; simpa using this⟩
theorem others_ne {n : Nat} {s : Nat} (h : 2 ≤ n) : othersS n s ≠ [] := fun z => by
  by_cases h0 : s = 0
  · have : 1 ∈ othersS n s := List.mem_filter.mpr ⟨List.mem_range.mpr (by omega), by simp; omega⟩
    rw [z] at this; simp at this
  · have : 0 ∈ othersS n s := List.mem_filter.mpr ⟨List.mem_range.mpr (by omega), by simp; omega⟩
    rw [z] at this; simp at this
theorem refs_of {P : Nat → Addr → Prop} : ∀ {ys : List V}, (∀ (j : Nat) y, ys[j]? = some y → ∃ b, y = .ref b ∧ P j b) → ∃ bs : List Addr, ys = bs.map V.ref ∧ ∀ (j : Nat) b, bs[j]? = some b → P j b := by
  intro ys
  induction ys generalizing P with
  | nil => intro _; exact ⟨[], rfl, fun j b e => by simp at e⟩
  | cons y ys ih =>
    intro h
    obtain ⟨b, e, hb⟩ := h 0 y rfl
    obtain ⟨bs, e2, h2⟩ := ih (P := fun j b => P (j + 1) b) fun j y hy => h (j + 1) y (by simpa using hy)
    refine ⟨b :: bs, by rw [e, e2]; rfl, fun j c hc => ?_⟩
    cases j with
    | zero => have : b = c := by simpa using hc
              rw [← this]; exact hb
    | succ j => exact h2 j c (by simpa using hc)
theorem WsAt.off {K : PySem.W.Frag} {H H' : Hp} {D : Addr} {bs : List Addr} {wss : List (List Int)} (h : WsAt K H bs wss) (n : D ∉ bs) (o : OffD D H H') : WsAt K H' bs wss := by
  unfold WsAt at *
  induction h with
  | nil => exact .nil
  | cons r t ih => exact .cons (o _ _ (fun z => n (by rw [z]; simp)) r) (ih fun z => n (List.mem_cons_of_mem _ z))
theorem WsAt.kp {K : PySem.W.Frag} {S : List Addr} {H H' : Hp} {bs : List Addr} {wss : List (List Int)} (h : WsAt K H bs wss) (k : Kp S H H') : WsAt K H' bs wss := Paired.mapP h fun _ _ q => k.lst q
theorem mv_len {c : Int} {ws xs : List Int} (h : ws.length = xs.length) : (mv c ws xs).length = ws.length := by
  unfold mv; rw [List.length_zipWith, h]; exact Nat.min_self _
theorem mv_mem {c : Int} (hc : c = 1 ∨ c = -1) {n : Nat} : ∀ {ws xs : List Int}, (∀ w ∈ ws, w.natAbs ≤ n) → (∀ x ∈ xs, -1000 ≤ x ∧ x ≤ 1000) → ∀ z ∈ mv c ws xs, z.natAbs ≤ n + 1000
  | [], _, _, _, z, hz => by simp [mv] at hz
  | _ :: _, [], _, _, z, hz => by simp [mv] at hz
  | w :: ws, x :: xs, h1, h2, z, hz => by
    rw [mv_cons] at hz
    rcases List.mem_cons.mp hz with e | e
    · have a1 := h1 w (List.mem_cons_self ..)
      have a2 := h2 x (List.mem_cons_self ..)
      rcases hc with rfl | rfl <;> rw [e] <;> omega
    · exact mv_mem hc (fun w hw => h1 w (List.mem_cons_of_mem _ hw)) (fun x hx => h2 x (List.mem_cons_of_mem _ hx)) z e
theorem Snd.prods_len (h : Snd) (p : List Int) : (h.prods p).length = h.ws.length := by unfold Snd.prods; rw [List.length_map]
theorem Snd.Ok.step {h : Snd} {p : List Int} {s : Nat} (o : h.Ok) (q : h.PtOk p) (hs : s < h.sides) : (h.step p s).Ok := by
  unfold Snd.step
  split
  · have hl := o.len
    have hlow := Hnd.low_snoc q.low
    have hpl : (p ++ [1]).length = h.many + 1 := by rw [List.length_append, q.len]; rfl
    have hset : ∀ (wss : List (List Int)) (i : Nat) (c : Int) (e : Nat), (c = 1 ∨ c = -1) → i < wss.length → (∀ w ∈ wss, w.length = h.many + 1) → (∀ w ∈ wss, ∀ x ∈ w, x.natAbs ≤ e) → (∀ w ∈ wss.set i (mv c (wss.getD i []) (p ++ [1])), w.length = h.many + 1) ∧ (∀ w ∈ wss.set i (mv c (wss.getD i []) (p ++ [1])), ∀ x ∈ w, x.natAbs ≤ e + 1000) := by
      intro wss i c e hc hi h1 h2
      have hg : wss.getD i [] = wss[i] := by rw [List.getD_eq_getElem?_getD, List.getElem?_eq_getElem hi]; rfl
      have hm : wss[i] ∈ wss := List.getElem_mem hi
      rw [hg]
      refine ⟨fun w hw => ?_, fun w hw x hx => ?_⟩
      · rcases List.mem_or_eq_of_mem_set hw with z | z
        · exact h1 w z
        · rw [z, mv_len (by rw [h1 _ hm, hpl]), h1 _ hm]
      · rcases List.mem_or_eq_of_mem_set hw with z | z
        · have := h2 w z x hx; omega
        · rw [z] at hx; exact mv_mem hc (h2 _ hm) hlow x hx
    have hsl : s < h.ws.length := by omega
    have hrv := rivalS_lt (ps := h.prods p) (s := (s : Int)) (by rw [Snd.prods_len, hl]; exact others_ne o.two)
    rw [Snd.prods_len] at hrv
    obtain ⟨a1, a2⟩ := hset h.ws s 1 (2000 * h.err) (.inl rfl) hsl o.lens o.low
    obtain ⟨b1, b2⟩ := hset (h.ws.set s (mv 1 (h.ws.getD s []) (p ++ [1]))) (rivalS (h.prods p) s) (-1) (2000 * h.err + 1000) (.inr rfl) (by rw [List.length_set]; exact hrv.1) a1 a2
    refine ⟨o.pos, o.few, o.two, o.five, ?_, b1, fun w hw x hx => ?_⟩
    · show (Snd.mend h.ws (h.prods p) p s).length = h.sides
      unfold Snd.mend
      rw [List.length_set, List.length_set, hl]
    · have := b2 w hw x hx
      show x.natAbs ≤ 2000 * (h.err + 1)
      omega
  · exact o
end Mw
set_option linter.all false
namespace Mw
def top2 (w : Int) : Int := 2 ^ w.toNat
def bot2 (w : Int) : Int := 2 ^ (-w).toNat
def much (pw p : List Int) (e : Nat) : Int := (((pw.zip p).filter fun z : Int × Int => decide (z.2 = 1)).map fun z : Int × Int => (2 : Int) ^ (z.1 + (e : Int)).toNat).sum
end Mw
set_option Elab.async false
set_option linter.all false
set_option maxRecDepth 100000
set_option maxHeartbeats 4000000
namespace Mw
open PySem L2
structure Vnd where
  many : Nat
  pw : List Int
  err : Nat
namespace Vnd
def tell (h : Vnd) (p : List Int) : Int := if (h.many : Int) * 2 ^ h.err ≤ much h.pw p h.err then 1 else 0
def wrong (h : Vnd) (p : List Int) (s : Int) : Bool := decide (h.tell p ≠ s)
def mend (pw p : List Int) (s : Int) : List Int := List.zipWith (fun w x => if x = 1 then w + (2 * s - 1) else w) pw p
def step (h : Vnd) (p : List Int) (s : Int) : Vnd := if h.wrong p s = true then { h with pw := mend h.pw p s, err := h.err + 1 } else h
def new (many : Nat) : Vnd := ⟨many, List.replicate many 0, 0⟩
structure Ok (h : Vnd) : Prop where
  pos : 0 < h.many
  few : h.many ≤ 12
  len : h.pw.length = h.many
  low : ∀ w ∈ h.pw, w.natAbs ≤ h.err
structure PtOk (h : Vnd) (p : List Int) : Prop where
  len : p.length = h.many
  low : ∀ x ∈ p, x = 0 ∨ x = 1
theorem mend_mem {s : Int} (hs : s = 0 ∨ s = 1) {n : Nat} : ∀ {ws xs : List Int}, (∀ w ∈ ws, w.natAbs ≤ n) → ∀ z ∈ mend ws xs s, z.natAbs ≤ n + 1
  | [], _, _, z, hz => by simp [mend] at hz
  | _ :: _, [], _, z, hz => by simp [mend] at hz
  | w :: ws, x :: xs, h1, z, hz => by
    unfold mend at hz
    rw [List.zipWith_cons_cons] at hz
    rcases List.mem_cons.mp hz with e | e
    · have a1 := h1 w (List.mem_cons_self ..)
      rw [e]
      split
      · rcases hs with rfl | rfl <;> omega
      · omega
    · exact mend_mem hs (fun w hw => h1 w (List.mem_cons_of_mem _ hw)) z e
theorem Ok.step {h : Vnd} {p : List Int} {s : Int} (o : h.Ok) (q : h.PtOk p) (hs : s = 0 ∨ s = 1) : (h.step p s).Ok := by
  unfold Vnd.step
  split
  · refine ⟨o.pos, o.few, ?_, fun w hw => mend_mem hs o.low w hw⟩
    show (mend h.pw p s).length = h.many
    unfold mend
    rw [List.length_zipWith, o.len, q.len]; exact Nat.min_self _
  · exact o
end Vnd
inductive Gnd where
  | p (h : Hnd)
  | v (h : Vnd)
  | s (h : Snd)
namespace Gnd
def kd : Gnd → Nat
  | .p h => h.kd
  | .v _ => 3
  | .s _ => 4
def many : Gnd → Nat
  | .p h => h.many
  | .v h => h.many
  | .s h => h.many
def err : Gnd → Nat
  | .p h => h.err
  | .v h => h.err
  | .s h => h.err
def has : Gnd → Int → Bool
  | .p _, z => decide (z = 0 ∨ z = 1)
  | .v _, z => decide (z = 0 ∨ z = 1)
  | .s h, z => decide (0 ≤ z ∧ z < h.sides)
def wrong : Gnd → List Int → Int → Bool
  | .p h, x, z => h.wrong x z
  | .v h, x, z => h.wrong x z
  | .s h, x, z => h.wrong x z.toNat
def step : Gnd → List Int → Int → Gnd
  | .p h, x, z => .p (h.step x z)
  | .v h, x, z => .v (h.step x z)
  | .s h, x, z => .s (h.step x z.toNat)
def Ok : Gnd → Prop
  | .p h => h.Ok
  | .v h => h.Ok
  | .s h => h.Ok
def PtOk : Gnd → List Int → Prop
  | .p h => h.PtOk
  | .v h => h.PtOk
  | .s h => h.PtOk
theorem Ok.step {g : Gnd} {x : List Int} {z : Int} (o : g.Ok) (q : g.PtOk x) (hz : g.has z = true) : (g.step x z).Ok := by
  cases g with
  | p h => exact Hnd.Ok.step o q (of_decide_eq_true hz)
  | v h => exact Vnd.Ok.step o q (of_decide_eq_true hz)
  | s h =>
    have hz' : 0 ≤ z ∧ z < h.sides := of_decide_eq_true hz
    exact Snd.Ok.step o q (by omega)
end Gnd
def HeldAt (H : Hp) (t : Addr) : Gnd → Prop
  | .p h => H t = some (.tup (h.ws.map V.int))
  | .v h => ∃ ts : List Addr, H t = some (.tup (ts.map V.ref)) ∧ Paired (fun a w => H a = some (.tup [.int (top2 w), .int (bot2 w)])) ts h.pw
  | .s h => ∃ ts : List Addr, H t = some (.tup (ts.map V.ref)) ∧ TsAt H ts h.ws
theorem HeldAt.map {H H' : Hp} {t : Addr} {g : Gnd} (h : HeldAt H t g) (m : ∀ a xs, H a = some (.tup xs) → H' a = some (.tup xs)) : HeldAt H' t g := by
  cases g with
  | p h' => exact m _ _ h
  | v h' => obtain ⟨ts, e, q⟩ := h; exact ⟨ts, m _ _ e, Paired.mapP q fun _ _ z => m _ _ z⟩
  | s h' => obtain ⟨ts, e, q⟩ := h; exact ⟨ts, m _ _ e, Paired.mapP q fun _ _ z => m _ _ z⟩
theorem HeldAt.tup {H : Hp} {t : Addr} {g : Gnd} (h : HeldAt H t g) : ∃ xs, H t = some (.tup xs) := by
  cases g with
  | p h' => exact ⟨_, h⟩
  | v h' => obtain ⟨ts, e, q⟩ := h; exact ⟨_, e⟩
  | s h' => obtain ⟨ts, e, q⟩ := h; exact ⟨_, e⟩
abbrev fldNames : List Str := ["many", "held", "made", "margin", "sides"]
structure GFs (g : Gnd) (t : Addr) (fs : List (Str × V)) : Prop where
  many : fs.lookup ("many" : Str) = some (.int g.many)
  held : fs.lookup ("held" : Str) = some (.ref t)
  made : fs.lookup ("made" : Str) = some (.int g.err)
  margin : ∀ h, g = .p h → h.kd = 2 → fs.lookup ("margin" : Str) = some (.int h.mg)
  sides : ∀ h, g = .s h → fs.lookup ("sides" : Str) = some (.int h.sides)
  few : fs.length ≤ 10
  no : ∀ f : Str, f ∉ fldNames → fs.lookup f = none
structure GAt (cls : Nat → Addr) (ks : List Nat) (H : Hp) (a : Addr) (g : Gnd) : Prop where
  ex : ∃ dx fs t, H a = some (.ins (cls g.kd) dx fs) ∧ GFs g t fs ∧ HeldAt H t g
  kin : g.kd ∈ ks
  pk : ∀ h, g = .p h → h.kd < 3
abbrev Kds (cls : Nat → Addr) (ks : List Nat) : Addr → Prop := fun C => ∃ k ∈ ks, C = cls k
section
variable {cls : Nat → Addr} {ks : List Nat} {H H' : Hp} {a : Addr} {g : Gnd}
theorem GAt.map (q : GAt cls ks H a g) (i : ∀ C dx fs, H a = some (.ins C dx fs) → H' a = some (.ins C dx fs)) (m : ∀ b xs, H b = some (.tup xs) → H' b = some (.tup xs)) : GAt cls ks H' a g := by
  obtain ⟨dx, fs, t, e, F, ht⟩ := q.ex
  exact ⟨⟨dx, fs, t, i _ _ _ e, F, ht.map m⟩, q.kin, q.pk⟩
theorem GAt.same (q : GAt cls ks H a g) (s : Same H H') : GAt cls ks H' a g := q.map (fun _ _ _ h => s _ _ h) fun _ _ h => s _ _ h
theorem GAt.keep {L : List Addr} (q : GAt cls ks H a g) (k : Kp L H H') (n : a ∉ L) : GAt cls ks H' a g := q.map (fun _ _ _ h => k.but _ _ n h) fun _ _ h => k.tup h
theorem GAt.keepL {D : Addr} {xs : List V} (q : GAt cls ks H a g) (e : H D = some (.lst xs)) (o : OffD D H H') : GAt cls ks H' a g :=
  q.map (fun _ _ _ h => o _ _ (fun z => by rw [z, e] at h; cases h) h) fun _ _ h => o _ _ (fun z => by rw [z, e] at h; cases h) h
theorem GAt.ins (q : GAt cls ks H a g) : ∃ C dx fs, H a = some (.ins C dx fs) ∧ Kds cls ks C ∧ ∀ f : Str, f ∉ fldNames → fs.lookup f = none := by
  obtain ⟨dx, fs, t, e, F, ht⟩ := q.ex
  exact ⟨_, dx, fs, e, ⟨_, q.kin, rfl⟩, F.no⟩
end
section
variable {cls : Nat → Addr} {ks : List Nat} {H H2 : Hp} {a dx r t : Addr} {fs : List (Str × V)} {g : Gnd}
end
def hI (cls : Nat → Addr) (ks : List Nat) : HandI where
  At := fun H a h => GAt cls ks H a (.p h)
  Kd := Kds cls ks
  ins := fun {H a h} q => by
    obtain ⟨C, dx, fs, e, k, n⟩ := q.ins
    exact ⟨C, dx, fs, e, k, n _ (by decide +kernel), n _ (by decide +kernel), n _ (by decide +kernel), n _ (by decide +kernel)⟩
  keep := fun {S H H' a h} q kp n => q.keep kp n
section
variable (K : PySem.W.Frag) (cls : Nat → Addr) (ks : List Nat) (np ns : Addr)
end
section
variable {K : PySem.W.Frag} {cls : Nat → Addr} {ks : List Nat} {np ns : Addr} {vs : List V} {H : Hp} {Q : VK} {E : XK}
end
end Mw
namespace Mw
end Mw
set_option Elab.async false
set_option linter.all false
set_option maxRecDepth 100000
set_option maxHeartbeats 4000000
namespace L2
open PySem PySem.Spec PyProof.Rows
end L2
namespace Mw
open PySem L2
theorem paired_of_get {α β : Type} {R : α → β → Prop} : ∀ {as : List α} {bs : List β}, as.length = bs.length → (∀ (j : Nat) a b, as[j]? = some a → bs[j]? = some b → R a b) → Paired R as bs
  | [], [], _, _ => .nil
  | [], _ :: _, h, _ => by simp at h
  | _ :: _, [], h, _ => by simp at h
  | a :: as, b :: bs, h, q => (.cons (q 0 a b rfl rfl) (paired_of_get (by simpa using h) fun j x y hx hy => q (j + 1) x y (by simpa using hx) (by simpa using hy)))
section
variable (K : PySem.W.Frag) (I : HandG Vnd) (np ns : Addr)
end
section
variable {K : PySem.W.Frag} {cls : Nat → Addr} {ks : List Nat} {np ns : Addr} {vs : List V} {H : Hp} {Q : VK} {E : XK}
end
end Mw
namespace Mw
end Mw
set_option Elab.async false
set_option linter.all false
set_option maxRecDepth 100000
set_option maxHeartbeats 4000000
namespace L2
open PySem PySem.Spec PyProof.Rows
section
variable {prog : Program} {w : World} {A : Around} {E : Value → Shared → Prop} {s : Shared}
end
end L2
set_option Elab.async false
set_option linter.all false
set_option maxRecDepth 100000
namespace L2
open PySem
theorem len1 {A B : Type} {x0 : B} {P : List A → Prop} (h : ∀ a0, P [a0]) : ∀ us : List A, us.length = [x0].length → P us
  | [], e => by simp at e
  | [a0], _ => h a0
  | _ :: _ :: _, e => by simp at e
theorem len2 {A B : Type} {x0 x1 : B} {P : List A → Prop} (h : ∀ a0 a1, P [a0, a1]) : ∀ us : List A, us.length = [x0, x1].length → P us
  | [], e => by simp at e
  | [_], e => by simp at e
  | [a0, a1], _ => h a0 a1
  | _ :: _ :: _ :: _, e => by simp at e
theorem len3 {A B : Type} {x0 x1 x2 : B} {P : List A → Prop} (h : ∀ a0 a1 a2, P [a0, a1, a2]) : ∀ us : List A, us.length = [x0, x1, x2].length → P us
  | [], e => by simp at e
  | [_], e => by simp at e
  | [_, _], e => by simp at e
  | [a0, a1, a2], _ => h a0 a1 a2
  | _ :: _ :: _ :: _ :: _, e => by simp at e
end L2
namespace Mw
open PySem L2
def top (i : Nat) : Stmt := PySem.Challenge.pw_mendweights_k39_tables_refused.main.body.getD i (.Pass ⟨0, 0, 0, 0⟩)
def mem (i j : Nat) : Stmt := match top i with
  | .ClassDef _ _ _ body _ _ _ _ _ _ _ => body.getD j (.Pass ⟨0, 0, 0, 0⟩)
  | _ => .Pass ⟨0, 0, 0, 0⟩
abbrev BN : List Str := ["abs", "len", "isinstance", "tuple", "list", "range", "enumerate", "zip", "min", "max", "sum", "any", "divmod", "ValueError"]
structure Prog (K : PySem.W.Frag) (mg : Str → Option Value) (X_MendError X_NoFraction X_NoSide X_NoTable X_OneSide X_NoPoint X_NoRow X_NoText X_NotParted X_TooMany X_WrongBook : Addr) : Prop where
  x_MendError : ExR K mg "MendError" X_MendError
  x_NoFraction : ExR K mg "NoFraction" X_NoFraction
  x_NoSide : ExR K mg "NoSide" X_NoSide
  x_NoTable : ExR K mg "NoTable" X_NoTable
  x_OneSide : ExR K mg "OneSide" X_OneSide
  x_NoPoint : ClN mg "NoPoint" X_NoPoint
  x_NoRow : ClN mg "NoRow" X_NoRow
  x_NoText : ClN mg "NoText" X_NoText
  x_NotParted : ClN mg "NotParted" X_NotParted
  x_TooMany : ClN mg "TooMany" X_TooMany
  x_WrongBook : ClN mg "WrongBook" X_WrongBook
  a_NoTable : ExcA K X_NoTable
  k_NoTable_ValueError : PySem.W.kitOne K (.ref X_NoTable) (.type "ValueError") = some true
  k_NoTable_NoFraction : PySem.W.kitOne K (.ref X_NoTable) (.ref X_NoFraction) = some false
  k_NoTable_NoPoint : PySem.W.kitOne K (.ref X_NoTable) (.ref X_NoPoint) = some false
  k_NoTable_NoRow : PySem.W.kitOne K (.ref X_NoTable) (.ref X_NoRow) = some false
  k_NoTable_NoSide : PySem.W.kitOne K (.ref X_NoTable) (.ref X_NoSide) = some false
  k_NoTable_NoTable : PySem.W.kitOne K (.ref X_NoTable) (.ref X_NoTable) = some true
  k_NoTable_NoText : PySem.W.kitOne K (.ref X_NoTable) (.ref X_NoText) = some false
  k_NoTable_NotParted : PySem.W.kitOne K (.ref X_NoTable) (.ref X_NotParted) = some false
  k_NoTable_OneSide : PySem.W.kitOne K (.ref X_NoTable) (.ref X_OneSide) = some false
  k_NoTable_TooMany : PySem.W.kitOne K (.ref X_NoTable) (.ref X_TooMany) = some false
  k_NoTable_WrongBook : PySem.W.kitOne K (.ref X_NoTable) (.ref X_WrongBook) = some false
  e_NoTable_MendError : PySem.W.exmOne K (.ref X_NoTable) (.ref X_MendError) = some true
def INP : List (Int × Int) := [(2, 1), (4, 2), (8, 3), (16, 4)]
structure TabM (K : PySem.W.Frag) (mg : Str → Option Value) (aT : Addr) : Prop where
  g : mg "INPUTS" = some (.ref aT)
  t : TabI K aT INP
def placesF : Nat → List (List Int)
  | 0 => [[]]
  | n + 1 => (placesF n).map (· ++ [0]) ++ (placesF n).map (· ++ [1])
theorem placesF_len : ∀ n, (placesF n).length = 2 ^ n
  | 0 => rfl
  | n + 1 => by
    unfold placesF
    rw [List.length_append, List.length_map, List.length_map, placesF_len n, Nat.pow_succ]; omega
theorem placesF_mem : ∀ n, ∀ p ∈ placesF n, p.length = n ∧ ∀ x ∈ p, x = 0 ∨ x = 1
  | 0, p, hp => by
    rw [List.mem_singleton.mp hp]
    exact ⟨rfl, fun x hx => by simp at hx⟩
  | n + 1, p, hp => by
    unfold placesF at hp
    rcases List.mem_append.mp hp with h | h
    · obtain ⟨q, hq, rfl⟩ := List.mem_map.mp h
      obtain ⟨h1, h2⟩ := placesF_mem n q hq
      refine ⟨by rw [List.length_append, h1]; rfl, fun x hx => ?_⟩
      rcases List.mem_append.mp hx with z | z
      · exact h2 x z
      · exact .inl (List.mem_singleton.mp z)
    · obtain ⟨q, hq, rfl⟩ := List.mem_map.mp h
      obtain ⟨h1, h2⟩ := placesF_mem n q hq
      refine ⟨by rw [List.length_append, h1]; rfl, fun x hx => ?_⟩
      rcases List.mem_append.mp hx with z | z
      · exact h2 x z
      · exact .inr (List.mem_singleton.mp z)
def leftF (c b : Int) : Nat → Int
  | 0 => c
  | n + 1 => leftF c b n / b
def digF (c b : Int) : Nat → List Int
  | 0 => []
  | n + 1 => digF c b n ++ [leftF c b n % b]
theorem digF_len (c b : Int) : ∀ n, (digF c b n).length = n
  | 0 => rfl
  | n + 1 => by unfold digF; rw [List.length_append, digF_len c b n]; rfl
theorem digF_low {c b : Int} (hb : 0 < b) : ∀ n, ∀ d ∈ digF c b n, 0 ≤ d ∧ d < b
  | 0, d, hd => by simp [digF] at hd
  | n + 1, d, hd => by
    unfold digF at hd
    rcases List.mem_append.mp hd with z | z
    · exact digF_low hb n d z
    · rw [List.mem_singleton.mp z]
      exact ⟨Int.emod_nonneg _ (by omega), Int.emod_lt_of_pos _ hb⟩
def PlAt (H : Hp) (as : List Addr) (ps : List (List Int)) : Prop := Paired (fun a p => H a = some (.tup (p.map V.int))) as ps
theorem PlAt.same {H H' : Hp} {as : List Addr} {ps : List (List Int)} (s : Same H H') (h : PlAt H as ps) : PlAt H' as ps := Paired.mapP h fun _ _ z => s _ _ z
theorem Paired.app {α β : Type} {R : α → β → Prop} : ∀ {as as' : List α} {bs bs' : List β}, Paired R as bs → Paired R as' bs' → Paired R (as ++ as') (bs ++ bs')
  | _, _, _, _, .nil, h => h
  | _, _, _, _, .cons r t, h => .cons r (Paired.app t h)
theorem ints_of {P : Int → Prop} : ∀ {ys : List V}, (∀ (j : Nat) y, ys[j]? = some y → ∃ d : Int, y = V.int d ∧ P d) → ∃ ds : List Int, ys = ds.map V.int ∧ ∀ d ∈ ds, P d
  | [], _ => ⟨[], rfl, fun d h => by simp at h⟩
  | y :: ys, h => by
    obtain ⟨d, e, hd⟩ := h 0 y rfl
    obtain ⟨ds, e2, h2⟩ := ints_of (ys := ys) fun j z hz => h (j + 1) z hz
    refine ⟨d :: ds, by rw [e, e2]; rfl, fun x hx => ?_⟩
    rcases List.mem_cons.mp hx with z | z
    · rw [z]; exact hd
    · exact h2 x z
theorem bls_of : ∀ {ys : List V}, (∀ (j : Nat) y, ys[j]? = some y → ∃ b : Bool, y = V.bl b) → ∃ bs : List Bool, ys = bs.map V.bl
  | [], _ => ⟨[], rfl⟩
  | y :: ys, h => by
    obtain ⟨d, e⟩ := h 0 y rfl
    obtain ⟨ds, e2⟩ := bls_of (ys := ys) fun j z hz => h (j + 1) z hz
    exact ⟨d :: ds, by rw [e, e2]; rfl⟩
def bI (b : Bool) : Int := if b = true then 1 else 0
def RowsB (H : Hp) (as : List Addr) (ps : List (List Int)) (bs : List Bool) : Prop := as.length = bs.length ∧ ∀ (j : Nat) a, as[j]? = some a → ∃ q p b, H a = some (.tup [.ref q, .int (bI b)]) ∧ ps[j]? = some p ∧ bs[j]? = some b ∧ H q = some (.tup (p.map V.int))
theorem RowsB.same {H H' : Hp} {as : List Addr} {ps : List (List Int)} {bs : List Bool} (s : Same H H') (h : RowsB H as ps bs) : RowsB H' as ps bs := ⟨h.1, fun j a e => by
  obtain ⟨q, p, b, e1, e2, e3, e4⟩ := h.2 j a e
  exact ⟨q, p, b, s _ _ e1, e2, e3, s _ _ e4⟩⟩
def spInputs (K : PySem.W.Frag) (xt : Addr) : Sp := fun vs H Q E => ∃ (a : Addr) (xs : List V), vs = [.ref a] ∧ SqL K H a xs ∧ (∀ v, INP.lookup (xs.length : Int) = some v → Q (.int v) H) ∧ (INP.lookup (xs.length : Int) = none → E (.ref xt) none H)
def spPlaces (K : PySem.W.Frag) : Sp := fun vs H Q _ => ∃ n : Nat, vs = [.int n] ∧ n ≤ 4 ∧ ∀ r H' (as : List Addr), Same H H' → H r = none → H' r = some (.lst (as.map V.ref)) → PlAt H' as (placesF n) → Q (.ref r) H'
def spRowsOf (K : PySem.W.Frag) (xt : Addr) : Sp := fun vs H Q E => ∃ (a : Addr) (bs : List Bool), vs = [.ref a] ∧ SqL K H a (bs.map V.bl) ∧ (INP.lookup (bs.length : Int) = none → E (.ref xt) none H) ∧
  ∀ n : Nat, INP.lookup (bs.length : Int) = some (n : Int) → ∀ r H' (as : List Addr), Same H H' → H r = none → H' r = some (.lst (as.map V.ref)) → RowsB H' as (placesF n) bs → Q (.ref r) H'
theorem inp_some {k v : Int} (h : INP.lookup k = some v) : ∃ n : Nat, v = (n : Int) ∧ 1 ≤ n ∧ n ≤ 4 ∧ k = ((2 ^ n : Nat) : Int) := by
  unfold INP at h
  simp only [List.lookup] at h
  split at h
  · rename_i e; have : k = 2 := by simpa using e
    exact ⟨1, (Option.some.inj h).symm, by decide, by decide, this⟩
  split at h
  · rename_i e; have : k = 4 := by simpa using e
    exact ⟨2, (Option.some.inj h).symm, by decide, by decide, this⟩
  split at h
  · rename_i e; have : k = 8 := by simpa using e
    exact ⟨3, (Option.some.inj h).symm, by decide, by decide, this⟩
  split at h
  · rename_i e; have : k = 16 := by simpa using e
    exact ⟨4, (Option.some.inj h).symm, by decide, by decide, this⟩
  · cases h
def spMixT : Sp := fun vs H Q _ => ∃ c k : Int, vs = [.int c, .int k] ∧ 0 ≤ k ∧ k < 1048576 ∧ ∀ z : Int, 0 ≤ z → z < 2147483629 → Q (.int z) H
def spDrawnT (K : PySem.W.Frag) : Sp := fun vs H Q _ => ∃ (c b : Int) (n : Nat), vs = [.int c, .int b, .int n] ∧ 0 < b ∧ b < 1000000 ∧ n ≤ 100 ∧ ∀ r H' (ds : List Int), Same H H' → H r = none → H' r = some (.lst (ds.map V.int)) → ds.length = n → (∀ d ∈ ds, 0 ≤ d ∧ d < b) → Q (.ref r) H'
def spNever : Sp := fun _ _ _ _ => False
theorem never_ok {P : Program} {w : World} {K : PySem.W.Frag} {mg : Str → Option Value} {base : Heap} {CX : CXT} {k : Nat} {f : Addr} {fd : FuncData} {ps : List Str} : FnOk P w K mg base CX k f fd ps spNever := ⟨fun _ _ _ _ h => h.elim, fun _ _ _ _ _ _ _ _ _ _ _ _ _ h => h.elim⟩
def spNoTab (K : PySem.W.Frag) (xt : Addr) : Sp := fun vs H Q E => ∃ (a : Addr) (bs : List Bool), vs = [.ref a] ∧ SqL K H a (bs.map V.bl) ∧ INP.lookup (bs.length : Int) = none ∧ ∀ H', Same H H' → E (.ref xt) none H'
def spAsk (K : PySem.W.Frag) (xt : Addr) : Sp := fun vs H Q E => ∃ (a : Addr) (bs : List Bool) (k : Int), vs = [.ref a, .int k] ∧ SqL K H a (bs.map V.bl) ∧ INP.lookup (bs.length : Int) = none ∧ ∀ H', Same H H' → E (.ref xt) none H'
def spClassT (xt : Addr) : Sp := fun vs H Q _ => ∃ e : Addr, vs = [.ref e] ∧ H e = some (excO xt e) ∧ Q (.bl true) H
def spRefT (K : PySem.W.Frag) : Sp := fun vs H Q _ => ∃ (a : Addr) (bs : List Bool) (k : Int), vs = [.ref a, .int k] ∧ SqL K H a (bs.map V.bl) ∧ bs.length ≤ 100 ∧ INP.lookup (bs.length : Int) = none ∧ ∀ H', Same H H' → Q (.bl true) H'
theorem many_no : ∀ m : Fin 41, (inV (.int (m.val : Int)) [V.int 2, .int 4, .int 8, .int 16] = true ∧ INP.lookup ((m.val : Int) + 1) = none) ∨ (inV (.int (m.val : Int)) [V.int 2, .int 4, .int 8, .int 16] = false ∧ INP.lookup (m.val : Int) = none) := by decide
end Mw
namespace Mw
open PySem L2
section
variable {P : Program} {w : World} {K : PySem.W.Frag} {mg : Str → Option Value} {base : Heap} {f : Addr} {fd : FuncData} {X_MendError X_NoFraction X_NoSide X_NoTable X_OneSide X_NoPoint X_NoRow X_NoText X_NotParted X_TooMany X_WrongBook aT : Addr}
theorem ok_parting (F : Fun K "parting" "parting" (top 44) f fd) (T : Txt BN mg) : FnOk P w K mg base CX0 1 f fd ["rows"] spNever := never_ok
end
end Mw
namespace Mw
open PySem L2
section
variable {P : Program} {w : World} {K : PySem.W.Frag} {mg : Str → Option Value} {base : Heap} {f : Addr} {fd : FuncData} {X_MendError X_NoFraction X_NoSide X_NoTable X_OneSide X_NoPoint X_NoRow X_NoText X_NotParted X_TooMany X_WrongBook aT : Addr}
theorem ok_sides_mixture (F : Fun K "sides_mixture" "sides_mixture" (top 45) f fd) (T : Txt BN mg) : FnOk P w K mg base CX0 1 f fd ["rows"] spNever := never_ok
end
end Mw
namespace Mw
open PySem L2
section
variable {P : Program} {w : World} {K : PySem.W.Frag} {mg : Str → Option Value} {base : Heap} {f : Addr} {fd : FuncData} {X_MendError X_NoFraction X_NoSide X_NoTable X_OneSide X_NoPoint X_NoRow X_NoText X_NotParted X_TooMany X_WrongBook aT : Addr}
theorem sc_inputs_of : FnScope ["truths"] ["truths"] (defScope (top 48)) := ⟨rfl, rfl, rfl, by decide +kernel, rfl, by decide +kernel, by decide +kernel⟩
theorem ok_inputs_of (F : Fun K "inputs_of" "inputs_of" (top 48) f fd) (T : Txt BN mg) (PR : Prog K mg X_MendError X_NoFraction X_NoSide X_NoTable X_OneSide X_NoPoint X_NoRow X_NoText X_NotParted X_TooMany X_WrongBook) (TB : TabM K mg aT) : FnOk P w K mg base (CXE P w) 2 f fd ["truths"] (spInputs K X_NoTable) := by
  refine F.okX sc_inputs_of (fun vs H Q E h => ?_) (fun cdv A outer s H vs Q E hr h => ?_)
  · obtain ⟨a, xs, rfl, _⟩ := h
    rfl
  obtain ⟨a, xs, rfl, hS, q, hE⟩ := h
  refine ⟨_, (pss_cons (ps_if (pt_cmpR (op_notInTab (K := K) rfl) (pe_callB (call_lenK (K := K) rfl) rfl (T.nb "len" (by decide)) (by decide +kernel) (pa_cons (pv 0) pa_nil)) (pe_cls rfl TB.g) (by with_unfolding_all rfl)) (pss_one (ps_raise rfl PR.x_NoTable.c rfl PR.x_NoTable.g raiseG_out (pa_cons pe_str pa_nil))) pss_nil)
      (pss_one (ps_ret (pe_ix (ix_tab (K := K) rfl) (pe_cls rfl TB.g) (pe_callB (call_lenK (K := K) rfl) rfl (T.nb "len" (by decide)) (by decide +kernel) (pa_cons (pv 0) pa_nil)) (fun _ _ => rfl))))), ?_⟩
  refine ⟨_, rfl, a, _, rfl, .inl hS, _, aT, INP, rfl, rfl, TB.t, fun e => ⟨_, rfl, iteT ⟨(by show 1 ≤ sizeLine; decide), hE e⟩⟩, fun v e => ⟨_, rfl, iteF ?_⟩⟩
  exact ⟨_, rfl, a, _, rfl, .inl hS, aT, INP, _, v, rfl, rfl, TB.t, e, q v e⟩
end
end Mw
namespace Mw
open PySem L2
section
variable {P : Program} {w : World} {K : PySem.W.Frag} {mg : Str → Option Value} {base : Heap} {f : Addr} {fd : FuncData} {X_MendError X_NoFraction X_NoSide X_NoTable X_OneSide X_NoPoint X_NoRow X_NoText X_NotParted X_TooMany X_WrongBook aT : Addr}
theorem sc_places_of : FnScope ["inputs", "places", "number"] ["inputs"] (defScope (top 49)) := ⟨rfl, rfl, rfl, by decide +kernel, rfl, by decide +kernel, by decide +kernel⟩
theorem ok_places_of (F : Fun K "places_of" "places_of" (top 49) f fd) (T : Txt BN mg) : FnOk P w K mg base CX0 1 f fd ["inputs"] (spPlaces K) := by
  refine F.ok sc_places_of (fun vs H Q E h => ?_) (fun cdv A outer s H vs Q E hr h => ?_)
  · obtain ⟨n, rfl, _⟩ := h
    rfl
  obtain ⟨n, rfl, hn, q⟩ := h
  refine ⟨_, (pss_cons (ps_set (i := 1) sc_places_of.nd rfl (Or.inl rfl) (pe_lst (pa_cons (pe_tup pa_nil) pa_nil)))
      (pss_cons (ps_for PassesOwn.never rfl (pi_range1 rfl (T.nb "range" (by decide)) (pa_cons (pv 0) pa_nil)) (pg_name (i := 2) sc_places_of.nd rfl (Or.inl rfl)) (pss_one (ps_set (i := 1) sc_places_of.nd rfl (Or.inl rfl) (pe_op op_cat (pe_comp (sc := defScope (top 49)) (N := ["inputs", "places", "number"]) (NB := ["place"]) (fr := [none]) rfl (by decide +kernel) (pi_list (pv 1)) (fun _ _ _ _ => (pg_name (i := 0) (show (["place"] : List Str).Nodup by decide +kernel) rfl (Or.inl rfl))) (fun _ _ _ _ => .nil) (fun _ _ _ _ => (pe_op (op_catA (K := K) rfl) (pv 0) (pe_tup (pa_cons pe_int pa_nil))))) (pe_comp (sc := defScope (top 49)) (N := ["inputs", "places", "number"]) (NB := ["place"]) (fr := [none]) rfl (by decide +kernel) (pi_list (pv 1)) (fun _ _ _ _ => (pg_name (i := 0) (show (["place"] : List Str).Nodup by decide +kernel) rfl (Or.inl rfl))) (fun _ _ _ _ => .nil) (fun _ _ _ _ => (pe_op (op_catA (K := K) rfl) (pv 0) (pe_tup (pa_cons pe_int pa_nil)))))))))
      (pss_one (ps_ret (pv 1))))), ?_⟩
  refine ⟨(by show 0 ≤ sizeLine; decide), fun p0 hp0 => ⟨(by show 1 ≤ sizeLine; decide), fun p1 hp1 => ?_⟩⟩
  have s0 := Same.new hp0 (.tup [])
  have s1 := s0.trans (Same.new hp1 (.lst [.ref p0]))
  have hP0 : upd (upd H p0 (.tup [])) p1 (.lst [.ref p0]) p0 = some (.tup []) := (Same.new hp1 _) _ _ upd_same
  have hP1 : upd (upd H p0 (.tup [])) p1 (.lst [.ref p0]) p1 = some (.lst [.ref p0]) := upd_same
  have hH1 : H p1 = none := s0.free hp1
  generalize upd (upd H p0 (.tup [])) p1 (.lst [.ref p0]) = H1 at *
  refine ⟨_, rfl, n, rfl, by omega, by omega, ?_⟩
  refine for_range (lo := 0) (n := n) (fun i σ H' => ∃ (r : Addr) (as : List Addr) (v : Option V), σ = [some (.int n), some (.ref r), v] ∧ Same H H' ∧ H r = none ∧ H' r = some (.lst (as.map V.ref)) ∧ PlAt H' as (placesF i))
    ⟨p1, [p0], none, rfl, s1, hH1, hP1, .cons hP0 .nil⟩ ?_ ?_
  · rintro i σ H' hi ⟨r, as, v, rfl, sm, hr0, hR, hP⟩
    have hal : as.length = 2 ^ i := by rw [← placesF_len]; exact Paired.length hP
    have h16 : as.length ≤ 16 := by
      rw [hal]
      exact Nat.pow_le_pow_right (by decide) (show i ≤ 4 by omega)
    have hsz : (as.map V.ref).length ≤ sizeLine := by rw [List.length_map]; exact Nat.le_of_lt (small1000 (by omega))
    refine ⟨_, rfl, r, rfl, ⟨_, SqL.of hR⟩, fun D1 hD1 => ?_⟩
    refine comp_list_rel (xs := as.map V.ref) (fun H' j y => ∃ b p, y = V.ref b ∧ b ≠ D1 ∧ (placesF i)[j]? = some p ∧ H' b = some (.tup ((p ++ [0]).map V.int))) ?_ (SqL.of ((Same.refl H') _ _ hR)) hsz hD1 ?_ ?_
    · rintro Ha Hb j y o ⟨b, p, e1, e2, e3, e4⟩
      exact ⟨b, p, e1, e2, e3, o _ _ e2 e4⟩
    · intro j x H3 R2 hx s3 hDn r3
      obtain ⟨A, hA, rfl⟩ := of_map hx
      obtain ⟨p, hp1, hp2⟩ := paired_get hP hA
      have hp3 := placesF_mem _ p (List.mem_of_getElem? hp1)
      refine ⟨wk_none (n := 1) rfl, _, rfl, (by show 1 ≤ sizeLine; decide), fun p5 hp5 => ?_⟩
      have s5 := Same.new hp5 (.tup [.int 0])
      refine ⟨A, p5, _, _, rfl, rfl, SqT.of (s5 _ _ (s3 _ _ ((Same.refl H') _ _ hp2))), upd_same, by simp, by rw [List.length_map, hp3.1]; exact Nat.le_of_lt (small1000 (by show i + 1 ≤ 1000; omega)), fun b H6 s6 hb0 hb => ?_⟩
      refine r3 _ _ (s5.trans s6) ⟨b, p, rfl, fun e => ?_, hp1, by rw [hb, List.map_append]; rfl⟩
      subst e
      rcases hb0 with e | e
      · rw [e] at hDn; exact hDn hp5
      · exact hDn (s5.free e)
    intro ys7 H7 s7 hL7 hyl7 hys7
    obtain ⟨bs7, rfl, hbs7⟩ := refs_of (P := fun j b => ∃ p, (placesF i)[j]? = some p ∧ H7 b = some (.tup ((p ++ [0]).map V.int))) (fun j y hy => by
      obtain ⟨b, p, e1, e2, e3, e4⟩ := hys7 j y hy
      exact ⟨b, e1, p, e3, e4⟩)
    rw [List.length_map, List.length_map] at hyl7
    have hP7 : PlAt H7 bs7 ((placesF i).map (· ++ [0])) := paired_of_get (by rw [List.length_map, placesF_len]; omega) fun j a q ha hq => by
      obtain ⟨p, e1, e2⟩ := hbs7 j a ha
      rw [List.getElem?_map, e1] at hq
      rw [← Option.some.inj hq]; exact e2
    refine ⟨_, rfl, r, rfl, ⟨_, SqL.of (s7 _ _ hR)⟩, fun D2 hD2 => ?_⟩
    refine comp_list_rel (xs := as.map V.ref) (fun H' j y => ∃ b p, y = V.ref b ∧ b ≠ D2 ∧ (placesF i)[j]? = some p ∧ H' b = some (.tup ((p ++ [1]).map V.int))) ?_ (SqL.of (s7 _ _ hR)) hsz hD2 ?_ ?_
    · rintro Ha Hb j y o ⟨b, p, e1, e2, e3, e4⟩
      exact ⟨b, p, e1, e2, e3, o _ _ e2 e4⟩
    · intro j x H3 R2 hx s3 hDn r3
      obtain ⟨A, hA, rfl⟩ := of_map hx
      obtain ⟨p, hp1, hp2⟩ := paired_get hP hA
      have hp3 := placesF_mem _ p (List.mem_of_getElem? hp1)
      refine ⟨wk_none (n := 1) rfl, _, rfl, (by show 1 ≤ sizeLine; decide), fun p5 hp5 => ?_⟩
      have s5 := Same.new hp5 (.tup [.int 1])
      refine ⟨A, p5, _, _, rfl, rfl, SqT.of (s5 _ _ (s3 _ _ (s7 _ _ hp2))), upd_same, by simp, by rw [List.length_map, hp3.1]; exact Nat.le_of_lt (small1000 (by show i + 1 ≤ 1000; omega)), fun b H6 s6 hb0 hb => ?_⟩
      refine r3 _ _ (s5.trans s6) ⟨b, p, rfl, fun e => ?_, hp1, by rw [hb, List.map_append]; rfl⟩
      subst e
      rcases hb0 with e | e
      · rw [e] at hDn; exact hDn hp5
      · exact hDn (s5.free e)
    intro ys8 H8 s8 hL8 hyl8 hys8
    obtain ⟨bs8, rfl, hbs8⟩ := refs_of (P := fun j b => ∃ p, (placesF i)[j]? = some p ∧ H8 b = some (.tup ((p ++ [1]).map V.int))) (fun j y hy => by
      obtain ⟨b, p, e1, e2, e3, e4⟩ := hys8 j y hy
      exact ⟨b, e1, p, e3, e4⟩)
    rw [List.length_map, List.length_map] at hyl8
    have hP8 : PlAt H8 bs8 ((placesF i).map (· ++ [1])) := paired_of_get (by rw [List.length_map, placesF_len]; omega) fun j a q ha hq => by
      obtain ⟨p, e1, e2⟩ := hbs8 j a ha
      rw [List.getElem?_map, e1] at hq
      rw [← Option.some.inj hq]; exact e2
    refine ⟨D1, D2, _, _, rfl, rfl, s8 _ _ hL7, hL8, by rw [List.length_map, List.length_map]; exact Nat.le_of_lt (small1000 (by omega)), fun p9 hp9 => ?_⟩
    have s9 := Same.new hp9 (.lst (bs7.map V.ref ++ bs8.map V.ref))
    refine ⟨p9, bs7 ++ bs8, _, rfl, sm.trans (s7.trans (s8.trans s9)), (sm.trans (s7.trans s8)).free hp9, by rw [upd_same, List.map_append], ?_⟩
    exact Paired.app ((hP7.same s8).same s9) (hP8.same s9)
  · rintro σ H' ⟨r, as, v, rfl, sm, hr0, hR, hP⟩
    exact ⟨_, rfl, q r H' as sm hr0 hR hP⟩
end
end Mw
namespace Mw
open PySem L2
section
variable {P : Program} {w : World} {K : PySem.W.Frag} {mg : Str → Option Value} {base : Heap} {f : Addr} {fd : FuncData} {X_MendError X_NoFraction X_NoSide X_NoTable X_OneSide X_NoPoint X_NoRow X_NoText X_NotParted X_TooMany X_WrongBook aT : Addr}
theorem sc_rows_of : FnScope ["truths", "places"] ["truths"] (defScope (top 50)) := ⟨rfl, rfl, rfl, by decide +kernel, rfl, by decide +kernel, by decide +kernel⟩
theorem ok_rows_of (F : Fun K "rows_of" "rows_of" (top 50) f fd) (T : Txt BN mg) (c_inputs_of : CalX P w K mg base 2 "inputs_of" ["truths"] (spInputs K X_NoTable)) (c_places_of : Cal P w K mg base 1 "places_of" ["inputs"] (spPlaces K)) : FnOk P w K mg base (CXE P w) 3 f fd ["truths"] (spRowsOf K X_NoTable) := by
  refine F.okX sc_rows_of (fun vs H Q E h => ?_) (fun cdv A outer s H vs Q E hr h => ?_)
  · obtain ⟨a, bs, rfl, _⟩ := h
    rfl
  obtain ⟨a, bs, rfl, hS, hE, q⟩ := h
  refine ⟨_, (pss_cons (ps_set (i := 1) sc_rows_of.nd rfl (Or.inl rfl) (pe_cal c_places_of (hr.mono (by decide)) rfl (pa_cons (pe_calG c_inputs_of (hr.mono (by decide)) rfl passG_out (pa_cons (pv 0) pa_nil)) pa_nil)))
      (pss_one (ps_ret (pe_comp (sc := defScope (top 50)) (N := ["truths", "places"]) (NB := ["place", "truth"]) (fr := [none, none]) rfl (by decide +kernel) (pi_zip rfl (T.nb "zip" (by decide)) (pa_cons (pv 1) (pa_cons (pv 0) pa_nil))) (fun _ _ _ _ => (pg_tupK (K := K) (n := 2) rfl rfl (pgs_cons (pg_name (i := 0) (show (["place", "truth"] : List Str).Nodup by decide +kernel) rfl (Or.inl rfl)) (pgs_cons (pg_name (i := 1) (show (["place", "truth"] : List Str).Nodup by decide +kernel) rfl (Or.inl rfl)) pgs_nil)))) (fun _ _ _ _ => .nil) (fun _ _ _ _ => (pe_tup (pa_cons (pv 0) (pa_cons (pe_ifExp (pt_val (pv 1)) pe_int pe_int) pa_nil)))))))), ?_⟩
  refine ⟨_, rfl, a, _, rfl, hS, fun v hv => ?_, fun e => hE (by rw [List.length_map] at e; exact e)⟩
  rw [List.length_map] at hv
  obtain ⟨n, rfl, h1, h4, hl⟩ := inp_some hv
  refine ⟨n, rfl, h4, fun r H1 as s1 hr0 hR hP => ?_⟩
  have hal : as.length = 2 ^ n := by rw [← placesF_len]; exact Paired.length hP
  have hbl : bs.length = 2 ^ n := by omega
  have h16 : 2 ^ n ≤ 2 ^ 4 := Nat.pow_le_pow_right (by decide) h4
  refine ⟨_, rfl, _, rfl, false, false, r, a, rfl, ⟨_, SqL.of hR⟩, ⟨_, s1.seq hS⟩, fun D hD => ?_⟩
  refine comp_zip_rel (us := as.map V.ref) (vs := bs.map V.bl) (fun H' j y => ∃ c q p b, y = V.ref c ∧ c ≠ D ∧ q ≠ D ∧ (placesF n)[j]? = some p ∧ bs[j]? = some b ∧ H' c = some (.tup [.ref q, .int (bI b)]) ∧ H' q = some (.tup (p.map V.int))) ?_ (SqL.of hR) (s1.seq hS) (by rw [List.length_map]; exact Nat.le_of_lt (small1000 (by omega))) hD ?_ ?_
  · rintro Ha Hb j y o ⟨c, q, p, b, e1, e2, e3, e4, e5, e6, e7⟩
    exact ⟨c, q, p, b, e1, e2, e3, e4, e5, o _ _ e2 e6, o _ _ e3 e7⟩
  · intro j x y T1 H2 R hx hy s2 hDn hT1 r3
    obtain ⟨A, hA, rfl⟩ := of_map hx
    obtain ⟨b, hb, rfl⟩ := of_map hy
    obtain ⟨p, hp1, hp2⟩ := paired_get hP hA
    have sT := Same.new hT1 (.tup [.ref A, .bl b])
    have hAD : A ≠ D := fun e => by rw [e, hD] at hp2; cases hp2
    refine ⟨T1, _, rfl, SqT.of upd_same, rfl, _, _, rfl, _, _, rfl, rfl, wk_none (n := 2) rfl, ?_⟩
    have fin : ∀ (z : Int), z = bI b → (2 ≤ sizeLine ∧ ∀ p5, upd H2 T1 (.tup [.ref A, .bl b]) p5 = none → R (.ref p5) (upd (upd H2 T1 (.tup [.ref A, .bl b])) p5 (.tup [.ref A, .int z]))) := fun z hz => by
      refine ⟨(by show 2 ≤ sizeLine; decide), fun p5 hp5 => ?_⟩
      have s5 := Same.new hp5 (.tup [.ref A, .int z])
      refine r3 _ _ s5 ⟨p5, A, p, b, rfl, fun e => ?_, hAD, hp1, hb, by rw [upd_same, hz], s5 _ _ (sT _ _ (s2 _ _ hp2))⟩
      rw [e] at hp5
      exact hDn (sT.free hp5)
    cases b with
    | true => exact ⟨_, rfl, _, rfl, _, rfl, iteT (fin 1 rfl)⟩
    | false => exact ⟨_, rfl, _, rfl, _, rfl, iteF (fin 0 rfl)⟩
  intro ys H2 s2 hL2 hyl hys
  obtain ⟨cs, rfl, hcs⟩ := refs_of (P := fun j c => ∃ q p b, (placesF n)[j]? = some p ∧ bs[j]? = some b ∧ H2 c = some (.tup [.ref q, .int (bI b)]) ∧ H2 q = some (.tup (p.map V.int))) (fun j y hy => by
    obtain ⟨c, q, p, b, e1, e2, e3, e4, e5, e6, e7⟩ := hys j y hy
    exact ⟨c, e1, q, p, b, e4, e5, e6, e7⟩)
  rw [List.length_map, List.length_map, List.length_map, hal, hbl, Nat.min_self] at hyl
  refine q n hv D H2 cs (s1.trans s2) (s1.free hD) hL2 ⟨by omega, fun j c hc => ?_⟩
  obtain ⟨q, p, b, e4, e5, e6, e7⟩ := hcs j c hc
  exact ⟨q, p, b, e6, e4, e5, e7⟩
end
end Mw
namespace Mw
open PySem L2
section
variable {P : Program} {w : World} {K : PySem.W.Frag} {mg : Str → Option Value} {base : Heap} {f : Addr} {fd : FuncData} {X_MendError X_NoFraction X_NoSide X_NoTable X_OneSide X_NoPoint X_NoRow X_NoText X_NotParted X_TooMany X_WrongBook aT : Addr}
theorem sc_table_weights : FnScope ["truths"] ["truths"] (defScope (top 51)) := ⟨rfl, rfl, rfl, by decide +kernel, rfl, by decide +kernel, by decide +kernel⟩
theorem ok_table_weights (F : Fun K "table_weights" "table_weights" (top 51) f fd) (T : Txt BN mg) (c_rows_of : CalX P w K mg base 3 "rows_of" ["truths"] (spRowsOf K X_NoTable)) (c_parting : Cal P w K mg base 1 "parting" ["rows"] spNever) : FnOk P w K mg base (CXE P w) 4 f fd ["truths"] (spNoTab K X_NoTable) := by
  refine F.okX sc_table_weights (fun vs H Q E h => ?_) (fun cdv A outer s H vs Q E hr h => ?_)
  · obtain ⟨a, bs, rfl, _⟩ := h
    rfl
  obtain ⟨a, bs, rfl, hS, hn, hE⟩ := h
  refine ⟨_, (pss_one (ps_ret (pe_cal c_parting (hr.mono (by decide)) rfl (pa_cons (pe_calG c_rows_of (hr.mono (by decide)) rfl passG_out (pa_cons (pv 0) pa_nil)) pa_nil)))), ?_⟩
  exact ⟨_, rfl, a, bs, rfl, hS, fun _ => hE _ (Same.refl _), fun n e => (by rw [hn] at e; cases e)⟩
end
end Mw
namespace Mw
open PySem L2
section
variable {P : Program} {w : World} {K : PySem.W.Frag} {mg : Str → Option Value} {base : Heap} {f : Addr} {fd : FuncData} {X_MendError X_NoFraction X_NoSide X_NoTable X_OneSide X_NoPoint X_NoRow X_NoText X_NotParted X_TooMany X_WrongBook aT : Addr}
theorem sc_table_mixture : FnScope ["truths", "rows"] ["truths"] (defScope (top 52)) := ⟨rfl, rfl, rfl, by decide +kernel, rfl, by decide +kernel, by decide +kernel⟩
theorem ok_table_mixture (F : Fun K "table_mixture" "table_mixture" (top 52) f fd) (T : Txt BN mg) (c_rows_of : CalX P w K mg base 3 "rows_of" ["truths"] (spRowsOf K X_NoTable)) (c_parting : Cal P w K mg base 1 "parting" ["rows"] spNever) (c_sides_mixture : Cal P w K mg base 1 "sides_mixture" ["rows"] spNever) : FnOk P w K mg base (CXE P w) 4 f fd ["truths"] (spNoTab K X_NoTable) := by
  refine F.okX sc_table_mixture (fun vs H Q E h => ?_) (fun cdv A outer s H vs Q E hr h => ?_)
  · obtain ⟨a, bs, rfl, _⟩ := h
    rfl
  obtain ⟨a, bs, rfl, hS, hn, hE⟩ := h
  refine ⟨_, (pss_cons (ps_set (i := 1) sc_table_mixture.nd rfl (Or.inl rfl) (pe_calG c_rows_of (hr.mono (by decide)) rfl passG_out (pa_cons (pv 0) pa_nil)))
      (pss_cons (ps_if (pt_cmpR op_notN (pe_cal c_parting (hr.mono (by decide)) rfl (pa_cons (pv 1) pa_nil)) pe_non (nomark _)) (pss_one (ps_ret pe_non)) pss_nil)
      (pss_one (ps_ret (pe_cal c_sides_mixture (hr.mono (by decide)) rfl (pa_cons (pv 1) pa_nil)))))), ?_⟩
  exact ⟨_, rfl, a, bs, rfl, hS, fun _ => hE _ (Same.refl _), fun n e => (by rw [hn] at e; cases e)⟩
end
end Mw
namespace Mw
open PySem L2
section
variable {P : Program} {w : World} {K : PySem.W.Frag} {mg : Str → Option Value} {base : Heap} {f : Addr} {fd : FuncData} {X_MendError X_NoFraction X_NoSide X_NoTable X_OneSide X_NoPoint X_NoRow X_NoText X_NotParted X_TooMany X_WrongBook aT : Addr}
theorem ok_way_of (F : Fun K "way_of" "way_of" (top 53) f fd) (T : Txt BN mg) : FnOk P w K mg base CX0 1 f fd ["truths", "step"] spNever := never_ok
end
end Mw
namespace Mw
open PySem L2
section
variable {P : Program} {w : World} {K : PySem.W.Frag} {mg : Str → Option Value} {base : Heap} {f : Addr} {fd : FuncData} {X_MendError X_NoFraction X_NoSide X_NoTable X_OneSide X_NoPoint X_NoRow X_NoText X_NotParted X_TooMany X_WrongBook aT : Addr}
theorem sc_ways_of : FnScope ["truths", "ways", "step", "number"] ["truths"] (defScope (top 54)) := ⟨rfl, rfl, rfl, by decide +kernel, rfl, by decide +kernel, by decide +kernel⟩
theorem ok_ways_of (F : Fun K "ways_of" "ways_of" (top 54) f fd) (T : Txt BN mg) (c_inputs_of : CalX P w K mg base 2 "inputs_of" ["truths"] (spInputs K X_NoTable)) (c_way_of : Cal P w K mg base 1 "way_of" ["truths", "step"] spNever) : FnOk P w K mg base (CXE P w) 4 f fd ["truths"] (spNoTab K X_NoTable) := by
  refine F.okX sc_ways_of (fun vs H Q E h => ?_) (fun cdv A outer s H vs Q E hr h => ?_)
  · obtain ⟨a, bs, rfl, _⟩ := h
    rfl
  obtain ⟨a, bs, rfl, hS, hn, hE⟩ := h
  refine ⟨_, (pss_cons (ps_set (i := 1) sc_ways_of.nd rfl (Or.inl rfl) (pe_lst pa_nil))
      (pss_cons (ps_set (i := 2) sc_ways_of.nd rfl (Or.inl rfl) pe_int)
      (pss_cons (ps_for PassesOwn.leaving rfl (pi_range1 rfl (T.nb "range" (by decide)) (pa_cons (pe_calG c_inputs_of (hr.mono (by decide)) rfl passG_out (pa_cons (pv 0) pa_nil)) pa_nil)) (pg_name (i := 3) sc_ways_of.nd rfl (Or.inl rfl)) (pss_cons (ps_expr (pe_bm PySem.F.plainAttrs_list PySem.F.slot_list_append PySem.F.type_list_append mt_append (pv 1) (pa_cons (pe_cal c_way_of (hr.mono (by decide)) rfl (pa_cons (pv 0) (pa_cons (pv 2) pa_nil))) pa_nil)))
      (pss_one (ps_set (i := 2) sc_ways_of.nd rfl (Or.inl rfl) (pe_op op_mulB (pv 2) pe_int)))))
      (pss_one (ps_ret (pv 1)))))), ?_⟩
  refine ⟨(by show 0 ≤ sizeLine; decide), fun p hp => ?_⟩
  have s1 := Same.new hp (.lst [])
  exact ⟨_, rfl, a, bs.map V.bl, rfl, s1.seq hS, fun v e => (by rw [List.length_map, hn] at e; cases e), fun _ => hE _ s1⟩
end
end Mw
namespace Mw
open PySem L2
section
variable {P : Program} {w : World} {K : PySem.W.Frag} {mg : Str → Option Value} {base : Heap} {f : Addr} {fd : FuncData} {X_MendError X_NoFraction X_NoSide X_NoTable X_OneSide X_NoPoint X_NoRow X_NoText X_NotParted X_TooMany X_WrongBook aT : Addr}
theorem sc__law_mixed : FnScope ["_law_cell", "_law_k", "_law_number"] ["_law_cell", "_law_k"] (defScope (top 57)) := ⟨rfl, rfl, rfl, by decide +kernel, rfl, by decide +kernel, by decide +kernel⟩
theorem ok__law_mixed (F : Fun K "_law_mixed" "_law_mixed" (top 57) f fd) (T : Txt BN mg) : FnOk P w K mg base CX0 1 f fd ["_law_cell", "_law_k"] spMixT := by
  refine F.ok sc__law_mixed (fun vs H Q E h => ?_) (fun cdv A outer s H vs Q E hr h => ?_)
  · obtain ⟨c, k, rfl, _⟩ := h
    rfl
  obtain ⟨c, k, rfl, h0, h1, q⟩ := h
  refine ⟨_, (pss_cons (ps_set (i := 2) sc__law_mixed.nd rfl (Or.inl rfl) (pe_op op_mod (pe_op op_add (pe_op op_add (pe_op op_mulB (pe_op op_mod (pv 0) (pe_op op_pow pe_int pe_int)) pe_int) (pe_op op_mulB (pe_op op_mulB (pv 1) (pv 1)) pe_int)) pe_int) pe_int))
      (pss_one (ps_ret (pe_op op_mod (pe_op op_add (pe_op op_add (pe_op op_mulB (pv 2) pe_int) (pe_op op_mulB (pv 1) pe_int)) pe_int) pe_int)))), ?_⟩
  have e20 : (10 : Int) ^ 20 = 100000000000000000000 := by decide
  have hc0 : 0 ≤ c % 10 ^ 20 := Int.emod_nonneg _ (by decide)
  have hc1 : c % 10 ^ 20 < 100000000000000000000 := Int.lt_of_lt_of_le (Int.emod_lt_of_pos _ (by decide)) (Int.le_of_eq e20)
  have hkk : k * k ≤ 1048576 * 1048576 := Int.mul_le_mul (by omega) (by omega) h0 (by decide)
  have hkk0 : 0 ≤ k * k := Int.mul_nonneg h0 h0
  refine ⟨_, rfl, _, _, rfl, rfl, ⟨by decide, by decide, by decide⟩, _, _, rfl, rfl, (by show (0 : Int) < 10 ^ 20; decide), _, _, rfl, rfl, ?_, _, rfl, _, rfl, _, _, rfl, rfl, mul64 (by omega) (by omega) (by omega) (by omega), _, _, rfl, rfl, mul64 (by show _ < k * k; omega) (by show k * k < _; omega) (by decide) (by decide), _, _, rfl, rfl, _, _, rfl, rfl, _, _, rfl, rfl, (by show (0 : Int) < 2147483647; decide), ?_⟩
  · refine ⟨200, by decide, ?_, ?_⟩
    · show (c % 10 ^ 20).natAbs < 2 ^ 200
      have e : (2 : Nat) ^ 200 = 1606938044258990275541962092341162602522202993782792835301376 := by decide
      omega
    · show (48271 : Int).natAbs < 2 ^ 200
      decide
  generalize hz : (c % 10 ^ 20 * 48271 + k * k * 40692 + 11) % 2147483647 = z
  have m0 : 0 ≤ z := by rw [← hz]; exact Int.emod_nonneg _ (by decide)
  have m1 : z < 2147483647 := by rw [← hz]; exact Int.emod_lt_of_pos _ (by decide)
  refine ⟨_, rfl, _, _, rfl, rfl, mul64 (by omega) (by omega) (by decide) (by decide), _, rfl, _, _, rfl, rfl, mul64 (by omega) (by omega) (by decide) (by decide), _, _, rfl, rfl, _, _, rfl, rfl, _, _, rfl, rfl, (by show (0 : Int) < 2147483629; decide), ?_⟩
  exact q _ (Int.emod_nonneg _ (by decide)) (Int.emod_lt_of_pos _ (by decide))
end
end Mw
namespace Mw
open PySem L2
section
variable {P : Program} {w : World} {K : PySem.W.Frag} {mg : Str → Option Value} {base : Heap} {f : Addr} {fd : FuncData} {X_MendError X_NoFraction X_NoSide X_NoTable X_OneSide X_NoPoint X_NoRow X_NoText X_NotParted X_TooMany X_WrongBook aT : Addr}
theorem sc__law_drawn : FnScope ["_law_cell", "_law_base", "_law_many", "_law_found", "_law_left", "_law_k", "_law_digit"] ["_law_cell", "_law_base", "_law_many"] (defScope (top 58)) := ⟨rfl, rfl, rfl, by decide +kernel, rfl, by decide +kernel, by decide +kernel⟩
theorem ok__law_drawn (F : Fun K "_law_drawn" "_law_drawn" (top 58) f fd) (T : Txt BN mg) (c__law_mixed : Cal P w K mg base 1 "_law_mixed" ["_law_cell", "_law_k"] spMixT) : FnOk P w K mg base CX0 2 f fd ["_law_cell", "_law_base", "_law_many"] (spDrawnT K) := by
  refine F.ok sc__law_drawn (fun vs H Q E h => ?_) (fun cdv A outer s H vs Q E hr h => ?_)
  · obtain ⟨c, b, n, rfl, _⟩ := h
    rfl
  obtain ⟨c, b, n, rfl, hb, hb2, hn, q⟩ := h
  refine ⟨_, (pss_cons (ps_set (i := 3) sc__law_drawn.nd rfl (Or.inl rfl) (pe_lst pa_nil))
      (pss_cons (ps_set (i := 4) sc__law_drawn.nd rfl (Or.inl rfl) (pv 0))
      (pss_cons (ps_for PassesOwn.never rfl (pi_range1 rfl (T.nb "range" (by decide)) (pa_cons (pv 2) pa_nil)) (pg_name (i := 5) sc__law_drawn.nd rfl (Or.inl rfl)) (pss_cons (ps_asg (pe_callB call_divmod rfl (T.nb "divmod" (by decide)) (by decide +kernel) (pa_cons (pv 4) (pa_cons (pv 1) pa_nil))) (pg_tupK (K := K) (n := 2) rfl rfl (pgs_cons (pg_name (i := 4) sc__law_drawn.nd rfl (Or.inl rfl)) (pgs_cons (pg_name (i := 6) sc__law_drawn.nd rfl (Or.inl rfl)) pgs_nil))))
      (pss_one (ps_expr (pe_bm PySem.F.plainAttrs_list PySem.F.slot_list_append PySem.F.type_list_append mt_append (pv 3) (pa_cons (pv 6) pa_nil))))))
      (pss_cons (ps_if (pt_cmpR op_gt (pv 4) pe_int (nomark _)) (pss_one (ps_ret (pv 3))) pss_nil)
      (pss_one (ps_ret (pe_comp (sc := defScope (top 58)) (N := ["_law_cell", "_law_base", "_law_many", "_law_found", "_law_left", "_law_k", "_law_digit"]) (NB := ["_law_k", "_law_base", "_law_cell"]) (fr := [none, some 1, some 0]) rfl (by decide +kernel) (pi_range1 rfl (T.nb "range" (by decide)) (pa_cons (pv 2) pa_nil)) (fun _ _ _ _ => (pg_name (i := 0) (show (["_law_k", "_law_base", "_law_cell"] : List Str).Nodup by decide +kernel) rfl (Or.inl rfl))) (fun _ _ _ _ => .nil) (fun _ _ _ _ => (pe_op op_mod (pe_op op_fdivP (pe_cal c__law_mixed (hr.mono (by decide)) rfl (pa_cons (pv 2) (pa_cons (pv 0) pa_nil))) pe_int) (pv 1)))))))))), ?_⟩
  refine ⟨(by show 0 ≤ sizeLine; decide), fun p hp => ?_⟩
  refine ⟨_, rfl, _, rfl, n, rfl, by omega, by omega, ?_⟩
  refine for_range (lo := 0) (n := n) (fun i σ H' => ∃ v5 v6 : Option V, σ = [some (.int c), some (.int b), some (.int n), some (.ref p), some (.int (leftF c b i)), v5, v6] ∧ Same H H' ∧ H' p = some (.lst ((digF c b i).map V.int)))
    ⟨none, none, rfl, Same.new hp _, upd_same⟩ ?_ ?_
  · rintro i σ H' hi ⟨v5, v6, rfl, sm, hl⟩
    refine ⟨_, rfl, _, rfl, _, _, rfl, ⟨hb, by omega⟩, fun p1 hp1 => ?_⟩
    have s1 := Same.new hp1 (.tup [.int (leftF c b i / b), .int (leftF c b i % b)])
    refine ⟨p1, _, rfl, SqT.of upd_same, rfl, _, _, rfl, _, _, rfl, rfl, ?_⟩
    have hl1 := s1 _ _ hl
    have hpH : p1 ≠ p := fun e => by rw [e, hl] at hp1; cases hp1
    refine ⟨_, rfl, .inl ⟨rfl, _, SqL.of hl1⟩, _, rfl, p, _, _, rfl, rfl, hl1, by rw [List.length_map, digF_len]; exact small1000 (by omega), ?_⟩
    exact ⟨_, _, rfl, (sm.trans s1).upd_old hp, (by show _ = some (HO.lst ((digF c b i ++ [leftF c b i % b]).map V.int)); rw [upd_same, List.map_append]; rfl)⟩
  · rintro σ H' ⟨v5, v6, rfl, sm, hl⟩
    refine ⟨_, rfl, _, _, rfl, rfl, _, rfl, ?_⟩
    refine iteD (fun _ => ?_) (fun _ => ?_)
    · exact ⟨_, rfl, q p H' (digF c b n) sm hp hl (digF_len c b n) (digF_low hb n)⟩
    · refine ⟨_, rfl, n, rfl, by omega, by omega, fun D hD => ?_⟩
      refine comp_range_rel (lo := 0) (n := n) (fun _ j y => ∃ d : Int, y = V.int d ∧ 0 ≤ d ∧ d < b) (fun _ _ _ _ _ h => h) (Nat.le_of_lt (small1000 (by omega))) hD ?_ ?_
      · intro j H1 R hj s1 _ r3
        refine ⟨⟨rfl, ?_⟩, ?_⟩
        · intro k v ek
          match k, ek with
          | 1, ek => exact ek
          | 2, ek => exact ek
          | 0, ek => simp [carry] at ek
          | k + 3, ek => simp [carry] at ek
        refine ⟨_, rfl, _, rfl, c, _, rfl, by omega, by omega, fun z hz0 hz1 => ?_⟩
        refine ⟨_, _, rfl, rfl, div64 (by decide) (by decide), _, rfl, _, _, rfl, rfl, hb, ?_⟩
        exact r3 _ _ (Same.refl _) ⟨_, rfl, Int.emod_nonneg _ (by omega), Int.emod_lt_of_pos _ hb⟩
      intro ys H1 s1 hL1 hyl hys
      obtain ⟨ds, rfl, hds⟩ := ints_of hys
      rw [List.length_map] at hyl
      exact q D H1 ds (sm.trans s1) (sm.free hD) hL1 hyl hds
end
end Mw
namespace Mw
open PySem L2
section
variable {P : Program} {w : World} {K : PySem.W.Frag} {mg : Str → Option Value} {base : Heap} {f : Addr} {fd : FuncData} {X_MendError X_NoFraction X_NoSide X_NoTable X_OneSide X_NoPoint X_NoRow X_NoText X_NotParted X_TooMany X_WrongBook aT : Addr}
theorem sc__law_ask : FnScope ["_law_truths", "_law_way"] ["_law_truths", "_law_way"] (defScope (top 59)) := ⟨rfl, rfl, rfl, by decide +kernel, rfl, by decide +kernel, by decide +kernel⟩
theorem ok__law_ask (F : Fun K "_law_ask" "_law_ask" (top 59) f fd) (T : Txt BN mg) (c_rows_of : CalX P w K mg base 3 "rows_of" ["truths"] (spRowsOf K X_NoTable)) (c_table_weights : CalX P w K mg base 4 "table_weights" ["truths"] (spNoTab K X_NoTable)) (c_table_mixture : CalX P w K mg base 4 "table_mixture" ["truths"] (spNoTab K X_NoTable)) (c_ways_of : CalX P w K mg base 4 "ways_of" ["truths"] (spNoTab K X_NoTable)) : FnOk P w K mg base (CXE P w) 5 f fd ["_law_truths", "_law_way"] (spAsk K X_NoTable) := by
  refine F.okX sc__law_ask (fun vs H Q E h => ?_) (fun cdv A outer s H vs Q E hr h => ?_)
  · obtain ⟨a, bs, k, rfl, _⟩ := h
    rfl
  obtain ⟨a, bs, k, rfl, hS, hn, hE⟩ := h
  refine ⟨_, (pss_cons (ps_if (pt_cmpR op_eq (pv 1) pe_int (nomark _)) (pss_one (ps_ret (pe_calG c_rows_of (hr.mono (by decide)) rfl passG_out (pa_cons (pv 0) pa_nil)))) pss_nil)
      (pss_cons (ps_if (pt_cmpR op_eq (pv 1) pe_int (nomark _)) (pss_one (ps_ret (pe_calG c_table_weights (hr.mono (by decide)) rfl passG_out (pa_cons (pv 0) pa_nil)))) pss_nil)
      (pss_cons (ps_if (pt_cmpR op_eq (pv 1) pe_int (nomark _)) (pss_one (ps_ret (pe_calG c_table_mixture (hr.mono (by decide)) rfl passG_out (pa_cons (pv 0) pa_nil)))) pss_nil)
      (pss_one (ps_ret (pe_calG c_ways_of (hr.mono (by decide)) rfl passG_out (pa_cons (pv 0) pa_nil))))))), ?_⟩
  refine ⟨_, rfl, rfl, _, rfl, ?_⟩
  refine iteD (fun _ => ?_) (fun _ => ?_)
  · exact ⟨_, rfl, a, bs, rfl, hS, fun _ => hE _ (Same.refl _), fun n e => (by rw [hn] at e; cases e)⟩
  refine ⟨_, rfl, rfl, _, rfl, ?_⟩
  refine iteD (fun _ => ?_) (fun _ => ?_)
  · exact ⟨_, rfl, a, bs, rfl, hS, hn, hE⟩
  refine ⟨_, rfl, rfl, _, rfl, ?_⟩
  refine iteD (fun _ => ?_) (fun _ => ?_)
  · exact ⟨_, rfl, a, bs, rfl, hS, hn, hE⟩
  · exact ⟨_, rfl, a, bs, rfl, hS, hn, hE⟩
end
end Mw
namespace Mw
open PySem L2
section
variable {P : Program} {w : World} {K : PySem.W.Frag} {mg : Str → Option Value} {base : Heap} {f : Addr} {fd : FuncData} {X_MendError X_NoFraction X_NoSide X_NoTable X_OneSide X_NoPoint X_NoRow X_NoText X_NotParted X_TooMany X_WrongBook aT : Addr}
theorem sc__law_class : FnScope ["_law_caught"] ["_law_caught"] (defScope (top 60)) := ⟨rfl, rfl, rfl, by decide +kernel, rfl, by decide +kernel, by decide +kernel⟩
theorem ok__law_class (F : Fun K "_law_class" "_law_class" (top 60) f fd) (T : Txt BN mg) (PR : Prog K mg X_MendError X_NoFraction X_NoSide X_NoTable X_OneSide X_NoPoint X_NoRow X_NoText X_NotParted X_TooMany X_WrongBook) : FnOk P w K mg base CX0 1 f fd ["_law_caught"] (spClassT X_NoTable) := by
  refine F.ok sc__law_class (fun vs H Q E h => ?_) (fun cdv A outer s H vs Q E hr h => ?_)
  · obtain ⟨e, rfl, _⟩ := h
    rfl
  obtain ⟨e, rfl, hE, q⟩ := h
  refine ⟨_, (pss_cons (ps_if (PW.pt (pw_or (pt_cmpR op_isN (pv 0) pe_non (nomark _)) (pw_or (pt_not (pt_val (pe_callB (call_isiE (K := K) rfl) rfl (T.nb "isinstance" (by decide)) (by decide +kernel) (pa_cons (pv 0) (pa_cons (pe_cls rfl PR.x_NoTable.g) pa_nil))))) (pw_or1 (pt_not (pt_val (pe_callB (call_isiE (K := K) rfl) rfl (T.nb "isinstance" (by decide)) (by decide +kernel) (pa_cons (pv 0) (pa_cons (pe_ty T "ValueError") pa_nil))))))))) (pss_one (ps_ret pe_bl)) pss_nil)
      (pss_cons (ps_if (PW.pt (pw_or (pt_val (pe_callB (call_isiE (K := K) rfl) rfl (T.nb "isinstance" (by decide)) (by decide +kernel) (pa_cons (pv 0) (pa_cons (pe_cls rfl PR.x_NoFraction.g) pa_nil)))) (pw_or (pt_val (pe_callB (call_isiE (K := K) rfl) rfl (T.nb "isinstance" (by decide)) (by decide +kernel) (pa_cons (pv 0) (pa_cons (pe_cls rfl PR.x_NoPoint.g) pa_nil)))) (pw_or1 (pt_val (pe_callB (call_isiE (K := K) rfl) rfl (T.nb "isinstance" (by decide)) (by decide +kernel) (pa_cons (pv 0) (pa_cons (pe_cls rfl PR.x_NoSide.g) pa_nil)))))))) (pss_one (ps_ret pe_bl)) pss_nil)
      (pss_cons (ps_if (PW.pt (pw_or (pt_val (pe_callB (call_isiE (K := K) rfl) rfl (T.nb "isinstance" (by decide)) (by decide +kernel) (pa_cons (pv 0) (pa_cons (pe_cls rfl PR.x_TooMany.g) pa_nil)))) (pw_or (pt_val (pe_callB (call_isiE (K := K) rfl) rfl (T.nb "isinstance" (by decide)) (by decide +kernel) (pa_cons (pv 0) (pa_cons (pe_cls rfl PR.x_NotParted.g) pa_nil)))) (pw_or1 (pt_val (pe_callB (call_isiE (K := K) rfl) rfl (T.nb "isinstance" (by decide)) (by decide +kernel) (pa_cons (pv 0) (pa_cons (pe_cls rfl PR.x_OneSide.g) pa_nil)))))))) (pss_one (ps_ret pe_bl)) pss_nil)
      (pss_one (ps_ret (pe_and (pe_not (pe_callB (call_isiE (K := K) rfl) rfl (T.nb "isinstance" (by decide)) (by decide +kernel) (pa_cons (pv 0) (pa_cons (pe_cls rfl PR.x_NoRow.g) pa_nil)))) (pe_and (pe_not (pe_callB (call_isiE (K := K) rfl) rfl (T.nb "isinstance" (by decide)) (by decide +kernel) (pa_cons (pv 0) (pa_cons (pe_cls rfl PR.x_WrongBook.g) pa_nil)))) (pe_one (pe_not (pe_callB (call_isiE (K := K) rfl) rfl (T.nb "isinstance" (by decide)) (by decide +kernel) (pa_cons (pv 0) (pa_cons (pe_cls rfl PR.x_NoText.g) pa_nil)))))))))))), ?_⟩
  refine ⟨_, rfl, rfl, _, rfl, ?_⟩
  refine iteD (fun z => nomatch z) (fun _ => ?_)
  refine ⟨_, rfl, e, X_NoTable, _, _, _, rfl, rfl, hE, PR.a_NoTable, PR.k_NoTable_NoTable, _, rfl, ?_⟩
  refine iteF ?_
  refine ⟨_, rfl, e, X_NoTable, _, _, _, rfl, rfl, hE, PR.a_NoTable, PR.k_NoTable_ValueError, _, rfl, ?_⟩
  refine iteF ?_
  refine ⟨_, rfl, e, X_NoTable, _, _, _, rfl, rfl, hE, PR.a_NoTable, PR.k_NoTable_NoFraction, _, rfl, ?_⟩
  refine iteF ?_
  refine ⟨_, rfl, e, X_NoTable, _, _, _, rfl, rfl, hE, PR.a_NoTable, PR.k_NoTable_NoPoint, _, rfl, ?_⟩
  refine iteF ?_
  refine ⟨_, rfl, e, X_NoTable, _, _, _, rfl, rfl, hE, PR.a_NoTable, PR.k_NoTable_NoSide, _, rfl, ?_⟩
  refine iteF ?_
  refine ⟨_, rfl, e, X_NoTable, _, _, _, rfl, rfl, hE, PR.a_NoTable, PR.k_NoTable_TooMany, _, rfl, ?_⟩
  refine iteF ?_
  refine ⟨_, rfl, e, X_NoTable, _, _, _, rfl, rfl, hE, PR.a_NoTable, PR.k_NoTable_NotParted, _, rfl, ?_⟩
  refine iteF ?_
  refine ⟨_, rfl, e, X_NoTable, _, _, _, rfl, rfl, hE, PR.a_NoTable, PR.k_NoTable_OneSide, _, rfl, ?_⟩
  refine iteF ?_
  refine ⟨_, rfl, e, X_NoTable, _, _, _, rfl, rfl, hE, PR.a_NoTable, PR.k_NoTable_NoRow, _, rfl, _, rfl, ?_⟩
  refine iteT ?_
  refine ⟨_, rfl, e, X_NoTable, _, _, _, rfl, rfl, hE, PR.a_NoTable, PR.k_NoTable_WrongBook, _, rfl, _, rfl, ?_⟩
  refine iteT ?_
  exact ⟨_, rfl, e, X_NoTable, _, _, _, rfl, rfl, hE, PR.a_NoTable, PR.k_NoTable_NoText, _, rfl, q⟩
end
end Mw
namespace Mw
open PySem L2
section
variable {P : Program} {w : World} {K : PySem.W.Frag} {mg : Str → Option Value} {base : Heap} {f : Addr} {fd : FuncData} {X_MendError X_NoFraction X_NoSide X_NoTable X_OneSide X_NoPoint X_NoRow X_NoText X_NotParted X_TooMany X_WrongBook aT : Addr}
theorem sc__law_refused : FnScope ["_law_truths", "_law_way", "_law_caught", "_law_handed", "error"] ["_law_truths", "_law_way"] (defScope (top 61)) := ⟨rfl, rfl, rfl, by decide +kernel, rfl, by decide +kernel, by decide +kernel⟩
theorem ok__law_refused (F : Fun K "_law_refused" "_law_refused" (top 61) f fd) (T : Txt BN mg) (PR : Prog K mg X_MendError X_NoFraction X_NoSide X_NoTable X_OneSide X_NoPoint X_NoRow X_NoText X_NotParted X_TooMany X_WrongBook) (c__law_ask : CalX P w K mg base 5 "_law_ask" ["_law_truths", "_law_way"] (spAsk K X_NoTable)) (c__law_class : Cal P w K mg base 1 "_law_class" ["_law_caught"] (spClassT X_NoTable)) : FnOk P w K mg base CX0 6 f fd ["_law_truths", "_law_way"] (spRefT K) := by
  refine F.ok sc__law_refused (fun vs H Q E h => ?_) (fun cdv A outer s H vs Q E hr h => ?_)
  · obtain ⟨a, bs, k, rfl, _⟩ := h
    rfl
  obtain ⟨a, bs, k, rfl, hS, hl, hn, q⟩ := h
  refine ⟨_, (pss_cons (ps_set (i := 2) sc__law_refused.nd rfl (Or.inl rfl) pe_non)
      (pss_cons (ps_set (i := 3) sc__law_refused.nd rfl (Or.inl rfl) (pe_callTy (call_listK (K := K) rfl) rfl (T.nb "list" (by decide)) (by decide +kernel) (pa_cons (pv 0) pa_nil)))
      (pss_cons (ps_try (i := 4) rfl rfl rfl PR.x_MendError.g sc__law_refused.nd rfl rfl (fun _ _ => (pss_one (ps_expr (pe_calG c__law_ask (hr.mono (by decide)) rfl tryC_pass (pa_cons (pv 3) (pa_cons (pv 1) pa_nil)))))) (fun _ _ => (pss_one (ps_set (i := 2) sc__law_refused.nd rfl (Or.inl rfl) (pv 4)))))
      (pss_one (ps_ret (pe_and (pe_cal c__law_class (hr.mono (by decide)) rfl (pa_cons (pv 2) pa_nil)) (pe_one (pe_cmpR (op_eqDeep 1 (K := K) rfl hr.units8 (by decide)) (pv 3) (pv 0) (nomark _))))))))), ?_⟩
  refine ⟨_, rfl, a, _, rfl, .inl hS, fun l hl0 => ?_⟩
  have s1 := Same.new hl0 (.lst (bs.map V.bl))
  have hL : upd H l (.lst (bs.map V.bl)) l = some (.lst (bs.map V.bl)) := upd_same
  generalize upd H l (.lst (bs.map V.bl)) = H1 at *
  refine ⟨_, rfl, _, rfl, l, bs, k, rfl, SqL.of hL, hn, fun H2 s2 => ?_⟩
  refine ⟨X_NoTable, rfl, PR.e_NoTable_MendError, fun e he => ?_⟩
  refine ⟨_, rfl, ?_⟩
  have hE : (upd H2 e (excO X_NoTable e)) e = some (excO X_NoTable e) := upd_same
  have s3 := s2.trans (Same.new he (excO X_NoTable e))
  generalize (upd H2 e (excO X_NoTable e)) = H3 at *
  refine ⟨_, rfl, e, rfl, hE, _, rfl, ?_⟩
  refine iteT ?_
  exact ⟨_, rfl, _, rfl, ⟨l, a, _, _, rfl, rfl, .inl ⟨SqL.of (s3 _ _ hL), (s1.trans s3).seq hS⟩, Deep.all (by rw [List.all_eq_true]; intro x hx; obtain ⟨y, _, rfl⟩ := List.mem_map.mp hx; rfl)⟩, q H3 (s1.trans s3)⟩
end
end Mw
namespace Mw
open PySem L2
section
variable {P : Program} {w : World} {K : PySem.W.Frag} {mg : Str → Option Value} {base : Heap} {f : Addr} {fd : FuncData} {X_MendError X_NoFraction X_NoSide X_NoTable X_OneSide X_NoPoint X_NoRow X_NoText X_NotParted X_TooMany X_WrongBook aT : Addr}
theorem sc_law : FnScope ["_law_script", "_law_k", "_law_cell", "_law_many", "_law_truths", "_law_way", "_law_fits"] ["_law_script"] (defScope (top 62)) := ⟨rfl, rfl, rfl, by decide +kernel, rfl, by decide +kernel, by decide +kernel⟩
theorem ok_law (F : Fun K "law" "law" (top 62) f fd) (T : Txt BN mg) (c_rows_of : CalX P w K mg base 3 "rows_of" ["truths"] (spRowsOf K X_NoTable)) (c__law_mixed : Cal P w K mg base 1 "_law_mixed" ["_law_cell", "_law_k"] spMixT) (c__law_drawn : Cal P w K mg base 2 "_law_drawn" ["_law_cell", "_law_base", "_law_many"] (spDrawnT K)) (c__law_refused : Cal P w K mg base 6 "_law_refused" ["_law_truths", "_law_way"] (spRefT K)) : FnOk P w K mg base CX0 7 f fd ["_law_script"] (spLaw K) := by
  refine F.ok sc_law (fun vs H Q E h => ?_) (fun cdv A outer s H vs Q E hr h => ?_)
  · obtain ⟨a, ns, rfl, _⟩ := h
    rfl
  obtain ⟨a, ns, rfl, hS, hl63, q⟩ := h
  refine ⟨_, (pss_cons (ps_for PassesOwn.never rfl (pi_enum rfl (T.nb "enumerate" (by decide)) (pa_cons (pe_op op_cat (pe_lst (pa_cons pe_int pa_nil)) (pe_slice (sl_listK (K := K) rfl) (pv 0) po_none (po_some pe_int))) pa_nil)) (pg_tupK (K := K) (n := 2) rfl rfl (pgs_cons (pg_name (i := 1) sc_law.nd rfl (Or.inl rfl)) (pgs_cons (pg_name (i := 2) sc_law.nd rfl (Or.inl rfl)) pgs_nil))) (pss_cons (ps_set (i := 3) sc_law.nd rfl (Or.inr rfl) (pe_op op_mod (pe_cal c__law_mixed (hr.mono (by decide)) rfl (pa_cons (pv 2) (pa_cons (pe_op op_add (pv 1) pe_int) pa_nil))) pe_int))
      (pss_cons (ps_join (ps_if (pt_cmpR (op_inK (K := K) rfl) (pv 3) (pe_lst (pa_cons pe_int (pa_cons pe_int (pa_cons pe_int (pa_cons pe_int pa_nil))))) (by with_unfolding_all rfl)) (pss_one (ps_set (i := 3) sc_law.nd rfl (Or.inr rfl) (pe_op op_add (pv 3) pe_int))) pss_nil))
      (pss_cons (ps_join (ps_comp (i := 4) sc_law.nd rfl rfl (sc := defScope (top 62)) (N := ["_law_script", "_law_k", "_law_cell", "_law_many", "_law_truths", "_law_way", "_law_fits"]) (NB := ["_law_one"]) (fr := [none]) rfl (by decide +kernel) (pi_list (pe_cal c__law_drawn (hr.mono (by decide)) rfl (pa_cons (pv 2) (pa_cons pe_int (pa_cons (pv 3) pa_nil))))) (fun _ _ _ _ => (pg_name (i := 0) (show (["_law_one"] : List Str).Nodup by decide +kernel) rfl (Or.inl rfl))) (fun _ _ _ _ => .nil) (fun _ _ _ _ => (pe_cmpR op_eq (pv 0) pe_int (nomark _)))))
      (pss_cons (ps_for PassesOwn.never rfl (pi_range1 rfl (T.nb "range" (by decide)) (pa_cons pe_int pa_nil)) (pg_name (i := 5) sc_law.nd rfl (Or.inl rfl)) (pss_one (ps_if (pt_not (pt_val (pe_cal c__law_refused (hr.mono (by decide)) rfl (pa_cons (pv 4) (pa_cons (pv 5) pa_nil))))) (pss_one (ps_ret pe_bl)) pss_nil)))
      (pss_cons (ps_set (i := 6) sc_law.nd rfl (Or.inl rfl) (pe_callB (call_maxL rfl) rfl (T.nb "max" (by decide)) (by decide +kernel) (pa_cons (pe_op op_cat (pe_lst (pa_cons pe_int pa_nil)) (pe_comp (sc := defScope (top 62)) (N := ["_law_script", "_law_k", "_law_cell", "_law_many", "_law_truths", "_law_way", "_law_fits"]) (NB := ["_law_one", "_law_many"]) (fr := [none, some 3]) rfl (by decide +kernel) (pi_list (pe_lst (pa_cons pe_int (pa_cons pe_int (pa_cons pe_int (pa_cons pe_int pa_nil)))))) (fun _ _ _ _ => (pg_name (i := 0) (show (["_law_one", "_law_many"] : List Str).Nodup by decide +kernel) rfl (Or.inl rfl))) (fun _ _ _ _ => .one (pt_cmpR op_lt (pv 0) (pv 1) (nomark _))) (fun _ _ _ _ => (pv 0)))) pa_nil)))
      (pss_one (ps_if (PW.pt (pw_and (pt_cmpR op_gt (pv 6) pe_int (nomark _)) (pw_and1 (pt_cmpR op_ne (pe_callB (call_lenK (K := K) rfl) rfl (T.nb "len" (by decide)) (by decide +kernel) (pa_cons (pe_calG c_rows_of (hr.mono (by decide)) rfl passG_never (pa_cons (pe_slice (sl_listK (K := K) rfl) (pv 4) po_none (po_some (pv 6))) pa_nil)) pa_nil)) (pv 6) (nomark _))))) (pss_one (ps_ret pe_bl)) pss_nil))))))))
      (pss_one (ps_ret pe_bl))), ?_⟩
  refine ⟨(by show 1 ≤ sizeLine; decide), fun p0 hp0 => ⟨_, rfl, 12, rfl, a, _, rfl, (Same.new hp0 _).seq hS, fun p1 hp1 => ?_⟩⟩
  rw [cut_map]
  have hcl := cutI_length ns none (some 12)
  generalize cutI ns none (some 12) = cs at *
  have s0 := Same.new hp0 (.lst [.int 0])
  have s1 := Same.new hp1 (.lst (cs.map V.int))
  refine ⟨p0, p1, _, _, rfl, rfl, s1 _ _ upd_same, upd_same, by rw [List.length_map]; exact Nat.le_of_lt (small1000 (by show 1 + cs.length ≤ 1000; omega)), fun p2 hp2 => ?_⟩
  have hP2 : upd (upd (upd H p0 (.lst [.int 0])) p1 (.lst (cs.map V.int))) p2 (.lst ([.int 0] ++ cs.map V.int)) p2 = some (.lst ((0 :: cs).map V.int)) := upd_same
  generalize upd (upd (upd H p0 (.lst [.int 0])) p1 (.lst (cs.map V.int))) p2 (.lst ([.int 0] ++ cs.map V.int)) = H2 at *
  refine ⟨p2, rfl, ⟨_, SqL.of hP2⟩, ?_⟩
  refine for_enum (xs := (0 :: cs).map V.int) (fun i σ H' => ∃ v1 v2 v3 v4 v5 v6 : Option V, σ = [some (.ref a), v1, v2, v3, v4, v5, v6] ∧ Same H2 H') ⟨none, none, none, none, none, none, rfl, Same.refl _⟩
    (fun i σ H' _ ⟨_, _, _, _, _, _, _, s4⟩ => SqL.of (s4 _ _ hP2)) ?_ ?_
  · rintro i x T0 σ H' hx1 hT0 ⟨v1, v2, v3, v4, v5, v6, rfl, s4⟩
    obtain ⟨c, hc, rfl⟩ := of_map hx1
    have hi : i < 64 := by have := (List.getElem?_eq_some_iff.mp hc).1; rw [List.length_cons] at this; omega
    refine ⟨T0, _, rfl, SqT.of upd_same, rfl, _, _, rfl, _, _, rfl, rfl, ?_⟩
    have s5 := s4.trans (Same.new hT0 (.tup [.int (i : Nat), .int c]))
    generalize upd H' T0 (.tup [.int (i : Nat), .int c]) = H5 at *
    refine ⟨_, rfl, _, rfl, _, _, rfl, rfl, c, _, rfl, by omega, by omega, fun z hz0 hz1 => ⟨_, _, rfl, rfl, (by show (0 : Int) < 41; decide), ?_⟩⟩
    have h0 := Int.emod_nonneg z (show (41 : Int) ≠ 0 by decide)
    have h1 := Int.emod_lt_of_pos z (show (0 : Int) < 41 by decide)
    obtain ⟨M, hM⟩ : ∃ M : Nat, z % 41 = (M : Int) := ⟨(z % 41).toNat, by omega⟩
    have hM41 : M < 41 := by omega
    refine ⟨fun σ H' => ∃ m : Nat, m ≤ 41 ∧ INP.lookup (m : Int) = none ∧ σ = [some (.ref a), some (.int (i : Nat)), some (.int c), some (.int m), v4, v5, v6] ∧ Same H5 H', ?_, ?_⟩
    · refine ⟨_, rfl, (by show 4 ≤ sizeLine; decide), fun p6 hp6 => ⟨p6, _, rfl, .inl (SqL.of upd_same), rfl, rfl, _, rfl, ?_⟩⟩
      show if inV (.int (z % 41)) [V.int 2, .int 4, .int 8, .int 16] = true then _ else _
      rw [hM]
      rcases many_no ⟨M, hM41⟩ with ⟨e1, e2⟩ | ⟨e1, e2⟩
      · rw [e1]
        refine iteT ?_
        refine ⟨_, rfl, _, _, rfl, rfl, M + 1, by omega, e2, ?_, Same.new hp6 _⟩
        show _ = [some (V.ref a), some (.int (i : Nat)), some (.int c), some (.int ((M : Int) + 1)), v4, v5, v6]
        rw [← hM]; rfl
      · rw [e1]
        refine iteF ?_
        refine ⟨M, by omega, e2, ?_, Same.new hp6 _⟩
        rw [← hM]; rfl
    rintro σ H6 ⟨m, hm, hno, rfl, s6⟩
    refine ⟨fun σ H' => ∃ (D : Addr) (bs : List Bool), bs.length = m ∧ σ = [some (.ref a), some (.int (i : Nat)), some (.int c), some (.int m), some (.ref D), v5, v6] ∧ Same H6 H' ∧ H' D = some (.lst (bs.map V.bl)), ?_, ?_⟩
    · refine ⟨_, rfl, _, rfl, c, 2, m, rfl, by decide, by decide, by omega, fun r H7 ds s7 hr0 hR hdl hdb => ?_⟩
      refine ⟨r, rfl, ⟨_, SqL.of hR⟩, fun D hD => ?_⟩
      refine comp_list_rel (xs := ds.map V.int) (fun _ j y => ∃ b : Bool, y = V.bl b) (fun _ _ _ _ _ h => h) (SqL.of hR) (by rw [List.length_map, hdl]; exact Nat.le_of_lt (small1000 (by omega))) hD ?_ ?_
      · intro j x H8 R hx s8 _ r3
        obtain ⟨d, hd, rfl⟩ := of_map hx
        exact ⟨wk_none (n := 1) rfl, _, rfl, rfl, r3 _ _ (Same.refl _) ⟨_, rfl⟩⟩
      intro ys H8 s8 hL8 hyl hys
      obtain ⟨bs, rfl⟩ := bls_of hys
      rw [List.length_map, List.length_map, hdl] at hyl
      exact ⟨D, bs, hyl, rfl, s7.trans s8, hL8⟩
    rintro σ H7 ⟨D, bs, hbl, rfl, s7, hD⟩
    subst hbl
    refine ⟨4, rfl, by decide, by decide, ?_⟩
    refine for_range (lo := 0) (n := 4) (fun k σ H' => ∃ v5 : Option V, σ = [some (.ref a), some (.int (i : Nat)), some (.int c), some (.int bs.length), some (.ref D), v5, v6] ∧ Same H7 H') ⟨v5, rfl, Same.refl _⟩ ?_ ?_
    · rintro k σ H8 hk ⟨w5, rfl, s8⟩
      refine ⟨_, rfl, _, rfl, D, bs, _, rfl, SqL.of (s8 _ _ hD), by omega, hno, fun H9 s9 => ⟨_, rfl, iteF ?_⟩⟩
      exact ⟨_, rfl, s8.trans s9⟩
    rintro σ H8 ⟨w5, rfl, s8⟩
    have hD8 := s8 _ _ hD
    refine ⟨(by show 1 ≤ sizeLine; decide), fun p9 hp9 => ⟨(by show 4 ≤ sizeLine; decide), fun p10 hp10 => ⟨p10, rfl, ⟨_, SqL.of upd_same⟩, fun D2 hD2 => ?_⟩⟩⟩
    have s9 := Same.new hp9 (.lst [.int 0])
    have s10 := Same.new hp10 (.lst [.int 2, .int 4, .int 8, .int 16])
    have hP9 : upd (upd H8 p9 (.lst [.int 0])) p10 (.lst [.int 2, .int 4, .int 8, .int 16]) p9 = some (.lst [.int 0]) := s10 _ _ upd_same
    have hP10 : upd (upd H8 p9 (.lst [.int 0])) p10 (.lst [.int 2, .int 4, .int 8, .int 16]) p10 = some (.lst (([2, 4, 8, 16] : List Int).map V.int)) := upd_same
    have s810 := s9.trans s10
    generalize upd (upd H8 p9 (.lst [.int 0])) p10 (.lst [.int 2, .int 4, .int 8, .int 16]) = H10 at *
    refine comp_list (xs := ([2, 4, 8, 16] : List Int).map V.int) (fun j zs H' => zs = ((([2, 4, 8, 16] : List Int).take j).filter (fun n => decide (n < (bs.length : Int)))).map V.int ∧ Same H10 H' ∧ H' D2 = some (.lst zs)) ⟨by simp, Same.new hD2 _, upd_same⟩
      (fun j zs H' hj ⟨e1, _, e3⟩ => ⟨e3, by rw [e1, List.length_map]; exact Nat.le_trans (List.length_filter_le _ _) (by rw [List.length_take]; omega)⟩) (fun j zs H' _ ⟨_, s4, _⟩ => SqL.of (s4 _ _ hP10)) (by show 4 ≤ sizeLine; decide) ?_ ?_
    · rintro j x zs H' hx ⟨e1, s4, e3⟩
      obtain ⟨d, hd, rfl⟩ := of_map hx
      refine ⟨wk1 rfl, ?_⟩
      refine ⟨_, rfl, _, rfl, _, _, rfl, rfl, _, rfl, ?_⟩
      rw [take_snoc hd, List.filter_append]
      refine iteD (fun y => ?_) (fun y => ?_)
      · refine ⟨_, rfl, e3, ?_, s4.upd_old hD2, upd_same⟩
        rw [e1, List.filter_cons, if_pos (decide_eq_true y)]; simp
      · refine ⟨?_, s4, e3⟩
        rw [e1, List.filter_cons, if_neg (by simpa using y)]; simp
    rintro zs H11 ⟨e1, s11, e3⟩
    rw [List.length_map, List.take_length] at e1
    generalize hfs : (([2, 4, 8, 16] : List Int).filter (fun n => decide (n < (bs.length : Int)))) = fs at *
    subst e1
    have hfl : fs.length ≤ 4 := by rw [← hfs]; exact List.length_filter_le _ _
    refine ⟨p9, D2, _, _, rfl, rfl, s11 _ _ hP9, e3, by rw [List.length_map]; exact Nat.le_of_lt (small1000 (by show 1 + fs.length ≤ 1000; omega)), fun p12 hp12 => ?_⟩
    have s12 := Same.new hp12 (.lst ([.int 0] ++ fs.map V.int))
    refine ⟨p12, 0 :: fs, rfl, SqL.of upd_same, by simp, fun mx hm1 hm2 => ?_⟩
    have hD12 := (s810.trans (s11.trans s12)) _ _ hD8
    have fin := s5.trans (s6.trans (s7.trans (s8.trans (s810.trans (s11.trans s12)))))
    generalize upd H11 p12 (.lst ([.int 0] ++ fs.map V.int)) = H12 at *
    have hmx : mx = 0 ∨ (0 < mx ∧ mx < (bs.length : Int) ∧ ∃ n : Nat, mx = (n : Int) ∧ ∃ v : Nat, INP.lookup mx = some (v : Int)) := by
      rcases List.mem_cons.mp hm1 with y | y
      · exact .inl y
      · rw [← hfs] at y
        obtain ⟨y1, y2⟩ := List.mem_filter.mp y
        have y3 : mx < (bs.length : Int) := by simpa using y2
        have y4 : mx = 2 ∨ mx = 4 ∨ mx = 8 ∨ mx = 16 := by simpa using y1
        refine .inr ⟨by omega, y3, mx.toNat, by omega, ?_⟩
        rcases y4 with e | e | e | e <;> rw [e]
        · exact ⟨1, rfl⟩
        · exact ⟨2, rfl⟩
        · exact ⟨3, rfl⟩
        · exact ⟨4, rfl⟩
    refine ⟨_, rfl, _, _, rfl, rfl, _, rfl, ?_⟩
    refine iteD (fun y => ?_) (fun y => ?_)
    · have y1 : 0 < mx := y
      rcases hmx with e | ⟨_, hlt, n, rfl, v, hv⟩
      · omega
      refine ⟨_, rfl, _, rfl, (n : Int), rfl, D, _, rfl, SqL.of hD12, fun p13 hp13 => ?_⟩
      have ec : cutV (bs.map V.bl) none (some (n : Int)) = (bs.take n).map V.bl := by
        unfold cutV
        rw [List.length_map, HT.sIx_nat, show HT.sIx bs.length 0 none = 0 from rfl, List.drop_zero, Nat.sub_zero, Nat.min_eq_left (by omega), List.map_take]
      rw [ec]
      have s13 := Same.new hp13 (.lst ((bs.take n).map V.bl))
      have htl : (bs.take n).length = n := by rw [List.length_take]; omega
      refine ⟨p13, bs.take n, rfl, SqL.of upd_same, fun e => (by rw [htl, hv] at e; cases e), fun n2 _ r H14 as s14 _ hR14 hB14 => ?_⟩
      refine ⟨r, _, rfl, .inl (SqL.of hR14), _, rfl, rfl, _, rfl, ?_⟩
      refine iteNS (by rw [List.length_map, hB14.1, htl]) ?_
      exact ⟨_, _, _, _, _, _, rfl, fin.trans (s13.trans s14)⟩
    · exact ⟨_, _, _, _, _, _, rfl, fin⟩
  · rintro σ H' ⟨v1, v2, v3, v4, v5, v6, rfl, s4⟩
    exact q _
end
end Mw
def PySem.W.Fast.tw15006252009161922268 : Nat := 0
def PySem.W.Fast.tw6998638507299685855 : Nat := 0
def PySem.W.Fast.tw896806880172195218 : Nat := 0
def PySem.W.Fast.tw3471002409066531147 : Nat := 0
def PySem.W.Fast.tw14451708304816507335 : Nat := 0
def PySem.W.Fast.tw6568221641400513247 : Nat := 0
def PySem.W.Fast.tw12283760659322530908 : Nat := 0
def PySem.W.Fast.tw14751917511789569828 : Nat := 0
def PySem.W.Fast.tw10793751183276113594 : Nat := 0
def PySem.W.Fast.tw11016691338608659015 : Nat := 0
def PySem.W.Fast.tw11213396587118091273 : Nat := 0
def PySem.W.Fast.tw10754799955637663427 : Nat := 0
def PySem.W.Fast.tw14059366817457361697 : Nat := 0
def PySem.W.Fast.tw1442322405884584998 : Nat := 0
def PySem.W.Fast.tw5934061895290726507 : Nat := 0
def PySem.W.Fast.tw9617894108993669213 : Nat := 0
def PySem.W.Fast.tw12522777597272758855 : Nat := 0
def PySem.W.Fast.tw14272336267814695034 : Nat := 0
def PySem.W.Fast.tw13802630080191104399 : Nat := 0
def PySem.W.Fast.tw14716987426447835284 : Nat := 0
def PySem.W.Fast.tw279827903724207882 : Nat := 0
def PySem.W.Fast.tw9419535747740537219 : Nat := 0
def PySem.W.Fast.tw5451305754076174575 : Nat := 0
def PySem.W.Fast.tw10124243091901831798 : Nat := 0
def PySem.W.Fast.tw17009615169479443864 : Nat := 0
def PySem.W.Fast.tw6086113589173190192 : Nat := 0
def PySem.W.Fast.tw17068478405308767308 : Nat := 0
def PySem.W.Fast.tw10130045572700206566 : Nat := 0
def PySem.W.Fast.tw12104236908651078281 : Nat := 0
def PySem.W.Fast.tw3100493943138782489 : Nat := 0
def PySem.W.Fast.tw18002673671325443578 : Nat := 0
def PySem.W.Fast.tw13697736048124552410 : Nat := 0
def PySem.W.Fast.tw9733347290682008691 : Nat := 0
def PySem.W.Fast.tw747594184838347407 : Nat := 0
def PySem.W.Fast.tw9553618124413978224 : Nat := 0
def PySem.W.Fast.tw14788729453159296855 : Nat := 0
def PySem.W.Fast.tw7178368456966626943 : Nat := 0
def PySem.W.Fast.tw10351591838089703665 : Nat := 0
def PySem.W.Fast.tw17851773245320855153 : Nat := 0
def PySem.W.Fast.tw6731969925864895760 : Nat := 0
def PySem.W.Fast.tw18302266209860591387 : Nat := 0
def PySem.W.Fast.tw6614036389074273435 : Nat := 0
def PySem.W.Fast.tw13340558199539405525 : Nat := 0
def PySem.W.Fast.tw5052980469743010868 : Nat := 0
def PySem.W.Fast.tw17926739179048667469 : Nat := 0
def PySem.W.Fast.tw5070113902684611573 : Nat := 0
def PySem.W.Fast.tw7267785714983125205 : Nat := 0
def PySem.W.Fast.tw18372251591335496425 : Nat := 0
def PySem.W.Fast.tw15475580779707916700 : Nat := 0
def PySem.W.Fast.tw9864941652363746076 : Nat := 0
def PySem.W.Fast.tw4654964548682696882 : Nat := 0
def PySem.W.Fast.tw2133582594954748790 : Nat := 0
def PySem.W.Fast.tw12164871729832732737 : Nat := 0
def PySem.W.Fast.tw1050196452003126142 : Nat := 0
def PySem.W.Fast.tw9265146276278650378 : Nat := 0
def PySem.W.Fast.tw4297337758009531330 : Nat := 0
def PySem.W.Fast.tw1126960645283526482 : Nat := 0
def PySem.W.Fast.tw201567195998881836 : Nat := 0
def PySem.W.Fast.tw2463162776996240972 : Nat := 0
def PySem.W.Fast.tw10434549566221057891 : Nat := 0
def PySem.W.Fast.tw17922344315037800867 : Nat := 0
def PySem.W.Fast.tw15996350750799980553 : Nat := 0
def PySem.W.Fast.tw12969269669486389150 : Nat := 0
def PySem.W.Fast.tw13668895537524299406 : Nat := 0
def PySem.W.Fast.tw16978140283022487158 : Nat := 0
def PySem.W.Fast.tw3282235931034289532 : Nat := 0
def PySem.W.Fast.tw6127275860012235916 : Nat := 0
def PySem.W.Fast.tw13804919202988720012 : Nat := 0
def PySem.W.Fast.tw5817083155721417823 : Nat := 0
def PySem.W.Fast.tw14937729281262792285 : Nat := 0
def PySem.W.Fast.tw16308148548258015076 : Nat := 0
def PySem.W.Fast.tw15005615269882600309 : Nat := 0
def PySem.W.Fast.tw14767841989116937907 : Nat := 0
def PySem.W.Fast.tw944527776791152003 : Nat := 0
def PySem.W.Fast.tw9997760357283485912 : Nat := 0
def PySem.W.Fast.tw9997907391470380488 : Nat := 0
def PySem.W.Fast.tw15244883643181555655 : Nat := 0
def PySem.W.Fast.tw12193490310044907633 : Nat := 0
def PySem.W.Fast.tw8211050994985764307 : Nat := 0
def PySem.W.Fast.tw14539626645997804850 : Nat := 0
def PySem.W.Fast.tw17095455952502783951 : Nat := 0
def PySem.W.Fast.tw12099887995265978054 : Nat := 0
def PySem.W.Fast.tw12703278964530115497 : Nat := 0
def PySem.W.Fast.tw12086645984567187241 : Nat := 0
def PySem.W.Fast.tw1583929409665584262 : Nat := 0
def PySem.W.Fast.tw4479258727124224823 : Nat := 0
def PySem.W.Fast.tw4536223605742986577 : Nat := 0
def PySem.W.Fast.tw13805843034921007987 : Nat := 0
def PySem.W.Fast.tw14721614385509960082 : Nat := 0
def PySem.W.Fast.tw4160828851788234849 : Nat := 0
def PySem.W.Fast.tw1570695950528002478 : Nat := 0
def PySem.W.Fast.tw18338829881081083943 : Nat := 0
def PySem.W.Fast.tw10939283607450411265 : Nat := 0
def PySem.W.Fast.tw12860962440105050028 : Nat := 0
def PySem.W.Fast.tw17003545845199511347 : Nat := 0
def PySem.W.Fast.tw14962722358564227106 : Nat := 0
def PySem.W.Fast.tw6395882114948225672 : Nat := 0
def PySem.W.Fast.tw14190818978176297098 : Nat := 0
def PySem.W.Fast.tw15307623242170043284 : Nat := 0
def PySem.W.Fast.tw9575692494118317329 : Nat := 0
def PySem.W.Fast.tw11728439091970668285 : Nat := 0
def PySem.W.Fast.tw6228088068782256277 : Nat := 0
def PySem.W.Fast.tw10761525261458304946 : Nat := 0
def PySem.W.Fast.tw8738364434665200708 : Nat := 0
def PySem.W.Fast.tw8632083063663327524 : Nat := 0
def PySem.W.Fast.tw8191005993509526429 : Nat := 0
def PySem.W.Fast.tw15903449893197751460 : Nat := 0
def PySem.W.Fast.tw17828656417962869223 : Nat := 0
def PySem.W.Fast.tw4455338492133333687 : Nat := 0
def PySem.W.Fast.tw2795737604311012500 : Nat := 0
def PySem.W.Fast.tw9168670016535191947 : Nat := 0
def PySem.W.Fast.tw17965870781607087032 : Nat := 0
def PySem.W.Fast.tw823559636064572091 : Nat := 0
def PySem.W.Fast.tw3426763700674633555 : Nat := 0
def PySem.W.Fast.tw1426606838542771868 : Nat := 0
def PySem.W.Fast.tw16271518732462833138 : Nat := 0
def PySem.W.Fast.tw9832418021144942597 : Nat := 0
def PySem.W.Fast.tw8831576907421441657 : Nat := 0
def PySem.W.Fast.tw5114900331052354478 : Nat := 0
def PySem.W.Fast.tw13285799097653288588 : Nat := 0
def PySem.W.Fast.tw12369548380232226142 : Nat := 0
def PySem.W.Fast.tw7437444110547326853 : Nat := 0
def PySem.W.Fast.tw4345995040021148813 : Nat := 0
def PySem.W.Fast.tw14296929386134002898 : Nat := 0
def PySem.W.Fast.tw16158334622358218234 : Nat := 0
def PySem.W.Fast.tw12584703368273110811 : Nat := 0
def PySem.W.Fast.tw8416008469480097863 : Nat := 0
def PySem.W.Fast.tw6573083500462203330 : Nat := 0
def PySem.W.Fast.tw17382149717057680002 : Nat := 0
def PySem.W.Fast.tw10955389777344649845 : Nat := 0
def PySem.W.Fast.tw16449250944223702077 : Nat := 0
def PySem.W.Fast.tw7242192380204316644 : Nat := 0
def PySem.W.Fast.tw11444309993260414251 : Nat := 0
def PySem.W.Fast.tw13898765892675817359 : Nat := 0
def PySem.W.Fast.tw3484237484920396273 : Nat := 0
def PySem.W.Fast.tw11441689739156942737 : Nat := 0
def PySem.W.Fast.tw18264273270079186289 : Nat := 0
def PySem.W.Fast.tw15256457572521652634 : Nat := 0
def PySem.W.Fast.tw11783090132311681700 : Nat := 0
def PySem.W.Fast.tw669460837700654099 : Nat := 0
def PySem.W.Fast.tw14191805358949979504 : Nat := 0
def PySem.W.Fast.tw17367660625263448266 : Nat := 0
def PySem.W.Fast.tw9667363869036735777 : Nat := 0
def PySem.W.Fast.tw695899656960837735 : Nat := 0
def PySem.W.Fast.tw9122173601374567987 : Nat := 0
def PySem.W.Fast.tw4667843430892492826 : Nat := 0
def PySem.W.Fast.tw2117556894082935186 : Nat := 0
def PySem.W.Fast.tw1714823554081398645 : Nat := 0
def PySem.W.Fast.tw17670725602333639505 : Nat := 0
def PySem.W.Fast.tw2541616201689238474 : Nat := 0
def PySem.W.Fast.tw971993261169290680 : Nat := 0
def PySem.W.Fast.tw10996189438933680657 : Nat := 0
def PySem.W.Fast.tw8423015225800049930 : Nat := 0
def PySem.W.Fast.tw2859451715029851051 : Nat := 0
def PySem.W.Fast.tw8521586921798805864 : Nat := 0
def PySem.W.Fast.tw2342872585948053488 : Nat := 0
def PySem.W.Fast.tw11332457749505825197 : Nat := 0
def PySem.W.Fast.tw2547323401262351433 : Nat := 0
def PySem.W.Fast.tw1316898874870849709 : Nat := 0
def PySem.W.Fast.tw3352711926986202402 : Nat := 0
def PySem.W.Fast.tw9854948032579163427 : Nat := 0
def PySem.W.Fast.tw11949795956339764284 : Nat := 0
def PySem.W.Fast.tw11917284869544598473 : Nat := 0
def PySem.W.Fast.tw13969777984121630158 : Nat := 0
def PySem.W.Fast.tw10955391733800141738 : Nat := 0
def PySem.W.Fast.tw8274132919743829238 : Nat := 0
def PySem.W.Fast.tw6858854371875475917 : Nat := 0
def PySem.W.Fast.tw15478220072784625851 : Nat := 0
def PySem.W.Fast.tw17160500356074278852 : Nat := 0
def PySem.W.Fast.tw17800789492676359525 : Nat := 0
def PySem.W.Fast.tw1301015242693277389 : Nat := 0
def PySem.W.Fast.tw16388154196841476531 : Nat := 0
def PySem.W.Fast.tw16060816460282033546 : Nat := 0
def PySem.W.Fast.tw9431361466949720527 : Nat := 0
def PySem.W.Fast.tw11435521416911499944 : Nat := 0
def PySem.W.Fast.tw1130478300752932620 : Nat := 0
def PySem.W.Fast.tw3699329183959415244 : Nat := 0
def PySem.W.Fast.tw15348522443102373365 : Nat := 0
def PySem.W.Fast.tw16312805186629377901 : Nat := 0
def PySem.W.Fast.tw16001747803013853539 : Nat := 0
def PySem.W.Fast.tw1939087812674590927 : Nat := 0
def PySem.W.Fast.tw4780091415706484692 : Nat := 0
def PySem.W.Fast.tw8742362514073209210 : Nat := 0
def PySem.W.Fast.tw4941967289172392551 : Nat := 0
def PySem.W.Fast.tw6879758056318136537 : Nat := 0
def PySem.W.Fast.tw6396229971315313124 : Nat := 0
def PySem.W.Fast.tw16223024171389849432 : Nat := 0
def PySem.W.Fast.tw7133747506976237709 : Nat := 0
def PySem.W.Fast.tw16355936044867471835 : Nat := 0
def PySem.W.Fast.tw17286803755694168336 : Nat := 0
def PySem.W.Fast.tw17874847485293801715 : Nat := 0
def PySem.W.Fast.tw10625824171855454315 : Nat := 0
def PySem.W.Fast.tw1416921967715973134 : Nat := 0
def PySem.W.Fast.tw4371984480516508620 : Nat := 0
def PySem.W.Fast.tw14561919047063337698 : Nat := 0
def PySem.W.Fast.tw5091760207459308390 : Nat := 0
def PySem.W.Fast.tw11758996733597078001 : Nat := 0
def PySem.W.Fast.tw1612452625826180305 : Nat := 0
def PySem.W.Fast.tw7922103601598077502 : Nat := 0
def PySem.W.Fast.tw16475388570675412044 : Nat := 0
def PySem.W.Fast.tw1482225320684774971 : Nat := 0
def PySem.W.Fast.tw12788524303685144555 : Nat := 0
def PySem.W.Fast.tw17984821507781329903 : Nat := 0
def PySem.W.Fast.tw13317760344701549170 : Nat := 0
def PySem.W.Fast.tw14875903803669323439 : Nat := 0
def PySem.W.Fast.tw13181631967863184806 : Nat := 0
def PySem.W.Fast.tw16130775656676410499 : Nat := 0
def PySem.W.Fast.tw3661227350873739491 : Nat := 0
def PySem.W.Fast.tw3589469637172363380 : Nat := 0
def PySem.W.Fast.tw15166776359343087205 : Nat := 0
def PySem.W.Fast.tw13206698499125727735 : Nat := 0
def PySem.W.Fast.tw12433460164161381484 : Nat := 0
def PySem.W.Fast.tw9778813982716419818 : Nat := 0
def PySem.W.Fast.tw6742875416040130059 : Nat := 0
def PySem.W.Fast.tw8788576901316855133 : Nat := 0
def PySem.W.Fast.tw9263059236489886560 : Nat := 0
def PySem.W.Fast.tw11332869465609147457 : Nat := 0
def PySem.W.Fast.tw17976400925339301947 : Nat := 0
def PySem.W.Fast.tw17397081652906665546 : Nat := 0
def PySem.W.Fast.tw17827931273651655775 : Nat := 0
def PySem.W.Fast.tw9329039747414474809 : Nat := 0
def PySem.W.Fast.tw7234609177501806875 : Nat := 0
def PySem.W.Fast.tw616051010451003136 : Nat := 0
def PySem.W.Fast.tw10649160073049939646 : Nat := 0
def PySem.W.Fast.tw4000763910224251060 : Nat := 0
def PySem.W.Fast.tw5065223217256251782 : Nat := 0
def PySem.W.Fast.tw2301658258670034686 : Nat := 0
def PySem.W.Fast.tw5501069152276667369 : Nat := 0
def PySem.W.Fast.tw17282434646996332662 : Nat := 0
def PySem.W.Fast.tw14919455402718417074 : Nat := 0
def PySem.W.Fast.tw16069238286608968848 : Nat := 0
def PySem.W.Fast.tw18130636690584740939 : Nat := 0
def PySem.W.Fast.tw11294578106654345369 : Nat := 0
def PySem.W.Fast.tw16040002501642539615 : Nat := 0
def PySem.W.Fast.tw7274047830824014615 : Nat := 0
def PySem.W.Fast.tw10752780200608295989 : Nat := 0
def PySem.W.Fast.tw13056908754620294076 : Nat := 0
def PySem.W.Fast.tw12397953026740966912 : Nat := 0
def PySem.W.Fast.tw3308847929616251279 : Nat := 0
def PySem.W.Fast.tw5859383197894313681 : Nat := 0
def PySem.W.Fast.tw13428575643731086453 : Nat := 0
def PySem.W.Fast.tw3238468910711420615 : Nat := 0
def PySem.W.Fast.tw7324076962306189170 : Nat := 0
def PySem.W.Fast.tw3001535699391763258 : Nat := 0
def PySem.W.Fast.tw10601330602469592682 : Nat := 0
def PySem.W.Fast.tw9939410487378206128 : Nat := 0
def PySem.W.Fast.tw2270164746209750032 : Nat := 0
def PySem.W.Fast.tw8466667568399769219 : Nat := 0
def PySem.W.Fast.tw15600961354932994386 : Nat := 0
def PySem.W.Fast.tw9040015613332832882 : Nat := 0
def PySem.W.Fast.tw6241860368532739552 : Nat := 0
def PySem.W.Fast.tw7306778260077668071 : Nat := 0
def PySem.W.Fast.tw1798803181461449849 : Nat := 0
def PySem.W.Fast.tw14015034979710176358 : Nat := 0
def PySem.W.Fast.tw11000888237142699345 : Nat := 0
def PySem.W.Fast.tw4088239311481255802 : Nat := 0
def PySem.W.Fast.tw5395599241128401808 : Nat := 0
def PySem.W.Fast.tw3487108634375810256 : Nat := 0
def PySem.W.Fast.tw8391575734300835589 : Nat := 0
def PySem.W.Fast.tw8320151757419041279 : Nat := 0
def PySem.W.Fast.tw15446848799093668334 : Nat := 0
def PySem.W.Fast.tw12204619487285738868 : Nat := 0
def PySem.W.Fast.tw12512909489585152813 : Nat := 0
def PySem.W.Fast.tw7559277281224900590 : Nat := 0
def PySem.W.Fast.tw2432402642596340311 : Nat := 0
def PySem.W.Fast.tw12037283166206175612 : Nat := 0
def PySem.W.Fast.tw14791867072991685670 : Nat := 0
def PySem.W.Fast.tw512210188826803391 : Nat := 0
def PySem.W.Fast.tw5438238157815170316 : Nat := 0
def PySem.W.Fast.tw10980277933896206725 : Nat := 0
def PySem.W.Fast.tw17704884220266700308 : Nat := 0
def PySem.W.Fast.tw14053138594473378563 : Nat := 0
def PySem.W.Fast.tw17564687435379971717 : Nat := 0
def PySem.W.Fast.tw15800246602175921000 : Nat := 0
def PySem.W.Fast.tw12736231522376028115 : Nat := 0
def PySem.W.Fast.tw11150363612757408420 : Nat := 0
def PySem.W.Fast.tw17168296826974171622 : Nat := 0
def PySem.W.Fast.tw2391216943709134037 : Nat := 0
def PySem.W.Fast.tw6988175545808791045 : Nat := 0
def PySem.W.Fast.tw10414480214365500882 : Nat := 0
def PySem.W.Fast.tw11629806172380242647 : Nat := 0
def PySem.W.Fast.tw2036509798414361961 : Nat := 0
def PySem.W.Fast.tw13353967073137835212 : Nat := 0
def PySem.W.Fast.tw10064439208232951746 : Nat := 0
def PySem.W.Fast.tw3265156044013611654 : Nat := 0
def PySem.W.Fast.tw751374743095445350 : Nat := 0
def PySem.W.Fast.tw17815951356512697371 : Nat := 0
def PySem.W.Fast.tw2371578694312020582 : Nat := 0
def PySem.W.Fast.tw14957426275116249085 : Nat := 0
def PySem.W.Fast.tw16234216206527905585 : Nat := 0
def PySem.W.Fast.tw12643209600546988706 : Nat := 0
def PySem.W.Fast.tw10315891986341137023 : Nat := 0
def PySem.W.Fast.tw10218953504143348647 : Nat := 0
def PySem.W.Fast.tw2968972882242388587 : Nat := 0
def PySem.W.Fast.tw11282274070875816274 : Nat := 0
def PySem.W.Fast.tw1302526279024217778 : Nat := 0
def PySem.W.Fast.tw15395872219760541084 : Nat := 0
def PySem.W.Fast.tw2897237747161333580 : Nat := 0
def PySem.W.Fast.tw6923034308904625593 : Nat := 0
def PySem.W.Fast.tw5872437231447778842 : Nat := 0
def PySem.W.Fast.tw15641069369074347275 : Nat := 0
def PySem.W.Fast.tw11817450978027599507 : Nat := 0
def PySem.W.Fast.tw3604322753578070610 : Nat := 0
def PySem.W.Fast.tw965538291772800121 : Nat := 0
def PySem.W.Fast.tw11499187518292820755 : Nat := 0
def PySem.W.Fast.tw17391530697657451591 : Nat := 0
def PySem.W.Fast.tw2880619615238887745 : Nat := 0
def PySem.W.Fast.tw2077995889113996171 : Nat := 0
def PySem.W.Fast.tw5635668691334986809 : Nat := 0
def PySem.W.Fast.tw6604400798460181876 : Nat := 0
def PySem.W.Fast.tw8941335148304698850 : Nat := 0
def PySem.W.Fast.tw7620983277839765226 : Nat := 0
def PySem.W.Fast.tw6343195238852404210 : Nat := 0
def PySem.W.Fast.tw189001492443156320 : Nat := 0
def PySem.W.Fast.tw2976729733671601566 : Nat := 0
def PySem.W.Fast.tw12678661646466205184 : Nat := 0
def PySem.W.Fast.tw8065356016301799542 : Nat := 0
def PySem.W.Fast.tw653237473111276865 : Nat := 0
def PySem.W.Fast.tw13376384408027371084 : Nat := 0
def PySem.W.Fast.tw3483636689482614567 : Nat := 0
def PySem.W.Fast.tw4279030435472359555 : Nat := 0
def PySem.W.Fast.tw9300363272938761243 : Nat := 0
def PySem.W.Fast.tw16262894119346983410 : Nat := 0
def PySem.W.Fast.tw14355523633668586661 : Nat := 0
def PySem.W.Fast.tw11612541982848340251 : Nat := 0
def PySem.W.Fast.tw14141539460775407373 : Nat := 0
def PySem.W.Fast.tw14438900816838990477 : Nat := 0
def PySem.W.Fast.tw1924595389786250764 : Nat := 0
def PySem.W.Fast.tw4445665667711143883 : Nat := 0
def PySem.W.Fast.tw14266347668043552223 : Nat := 0
def PySem.W.Fast.tw8450258991514403606 : Nat := 0
def PySem.W.Fast.tw14924493520177195544 : Nat := 0
def PySem.W.Fast.tw12146767331118875623 : Nat := 0
def PySem.W.Fast.tw7331377803262820469 : Nat := 0
def PySem.W.Fast.tw9904774709727885434 : Nat := 0
def PySem.W.Fast.tw15434781086777456779 : Nat := 0
def PySem.W.Fast.tw12981609407867543607 : Nat := 0
def PySem.W.Fast.tw6130344117134336262 : Nat := 0
def PySem.W.Fast.tw12742863914927290599 : Nat := 0
def PySem.W.Fast.tw5772429603075093458 : Nat := 0
def PySem.W.Fast.tw2914730940183728421 : Nat := 0
def PySem.W.Fast.tw2340291163304404244 : Nat := 0
def PySem.W.Fast.tw17809251932896535811 : Nat := 0
def PySem.W.Fast.tw9249397846143343831 : Nat := 0
def PySem.W.Fast.tw924881282521749178 : Nat := 0
def PySem.W.Fast.tw8150044834323609178 : Nat := 0
def PySem.W.Fast.tw16427520346569295556 : Nat := 0
def PySem.W.Fast.tw9758572751854588272 : Nat := 0
def PySem.W.Fast.tw13575742252717441964 : Nat := 0
def PySem.W.Fast.tw2080868390393898382 : Nat := 0
def PySem.W.Fast.tw14329669702524838731 : Nat := 0
def PySem.W.Fast.tw13115325042004099508 : Nat := 0
def PySem.W.Fast.tw7425434109352352893 : Nat := 0
def PySem.W.Fast.tw12162141079622403430 : Nat := 0
def PySem.W.Fast.tw6469381075212177033 : Nat := 0
def PySem.W.Fast.tw10185996612150510149 : Nat := 0
def PySem.W.Fast.tw5675855133899596159 : Nat := 0
def PySem.W.Fast.tw11864311701440233326 : Nat := 0
def PySem.W.Fast.tw13818042592294893646 : Nat := 0
def PySem.W.Fast.tw5042452116482643282 : Nat := 0
def PySem.W.Fast.tw8609641789391877804 : Nat := 0
def PySem.W.Fast.tw6189767675344616235 : Nat := 0
def PySem.W.Fast.tw7429143941181609468 : Nat := 0
def PySem.W.Fast.tw5015986389417592617 : Nat := 0
def PySem.W.Fast.tw12037450386639793291 : Nat := 0
def PySem.W.Fast.tw7201793855721440559 : Nat := 0
def PySem.W.Fast.tw1593820155728516370 : Nat := 0
def PySem.W.Fast.tw10711430005871727476 : Nat := 0
def PySem.W.Fast.tw1669094647173319447 : Nat := 0
def PySem.W.Fast.tw11860353049532796109 : Nat := 0
def PySem.W.Fast.tw2932959298565594865 : Nat := 0
def PySem.W.Fast.tw18011822111263830565 : Nat := 0
def PySem.W.Fast.tw1804627908646407937 : Nat := 0
def PySem.W.Fast.tw740832146052359707 : Nat := 0
def PySem.W.Fast.tw13286176289318703277 : Nat := 0
def PySem.W.Fast.tw18403537214270913998 : Nat := 0
def PySem.W.Fast.tw11765306080822767587 : Nat := 0
def PySem.W.Fast.tw3390679406336249249 : Nat := 0
def PySem.W.Fast.tw7059630001794529357 : Nat := 0
def PySem.W.Fast.tw11208367295983734890 : Nat := 0
def PySem.W.Fast.tw9554896605460396156 : Nat := 0
def PySem.W.Fast.tw13865328568494820688 : Nat := 0
def PySem.W.Fast.tw8342522790975109244 : Nat := 0
def PySem.W.Fast.tw15955499616766386220 : Nat := 0
def PySem.W.Fast.tw5196378912664917946 : Nat := 0
def PySem.W.Fast.tw2868060689934472681 : Nat := 0
def PySem.W.Fast.tw4784732795270323371 : Nat := 0
def PySem.W.Fast.tw4285613532867422296 : Nat := 0
def PySem.W.Fast.tw3105747095217782901 : Nat := 0
def PySem.W.Fast.tw14049603565558066628 : Nat := 0
def PySem.W.Fast.tw16837457670795990563 : Nat := 0
def PySem.W.Fast.tw14057626148640880343 : Nat := 0
def PySem.W.Fast.tw6134479329632756428 : Nat := 0
def PySem.W.Fast.tw12653588434418649831 : Nat := 0
def PySem.W.Fast.tw18214707684149064667 : Nat := 0
def PySem.W.Fast.tw5281621109203658371 : Nat := 0
def PySem.W.Fast.tw9061095391664995643 : Nat := 0
def PySem.W.Fast.tw809665006950578086 : Nat := 0
def PySem.W.Fast.tw7485621093638236764 : Nat := 0
def PySem.W.Fast.tw4983230335567696460 : Nat := 0
def PySem.W.Fast.tw7555560227606321199 : Nat := 0
def PySem.W.Fast.tw11920065049332906485 : Nat := 0
def PySem.W.Fast.tw981624915273737702 : Nat := 0
def PySem.W.Fast.tw14343698394967381930 : Nat := 0
def PySem.W.Fast.tw10006462249235952000 : Nat := 0
def PySem.W.Fast.tw17070788304132317081 : Nat := 0
def PySem.W.Fast.tw5853128480535641060 : Nat := 0
def PySem.W.Fast.tw18227184751694758291 : Nat := 0
def PySem.W.Fast.tw3470976151168889724 : Nat := 0
def PySem.W.Fast.tw7601896459388014858 : Nat := 0
def PySem.W.Fast.tw5190662925549961935 : Nat := 0
def PySem.W.Fast.tw13676779414098095756 : Nat := 0
def PySem.W.Fast.tw12670313836703011487 : Nat := 0
def PySem.W.Fast.tw2471347733844300889 : Nat := 0
def PySem.W.Fast.tw1062944721313937258 : Nat := 0
def PySem.W.Fast.tw15826088847238818715 : Nat := 0
def PySem.W.Fast.tw11092339172435850410 : Nat := 0
def PySem.W.Fast.tw17996327491505923710 : Nat := 0
def PySem.W.Fast.tw10916819260116308016 : Nat := 0
def PySem.W.Fast.tw15958609108249466827 : Nat := 0
def PySem.W.Fast.tw5387838853299523596 : Nat := 0
def PySem.W.Fast.tw11283547407765141693 : Nat := 0
def PySem.W.Fast.tw13040159069738422914 : Nat := 0
def PySem.W.Fast.tw9740849343473250690 : Nat := 0
def PySem.W.Fast.tw674920268581102504 : Nat := 0
def PySem.W.Fast.tw13188334238965122691 : Nat := 0
def PySem.W.Fast.tw10220164552420247109 : Nat := 0
def PySem.W.Fast.tw8654350380274252728 : Nat := 0
def PySem.W.Fast.tw13598437858404947768 : Nat := 0
def PySem.W.Fast.tw907602711672794501 : Nat := 0
def PySem.W.Fast.tw5000891070991836378 : Nat := 0
def PySem.W.Fast.tw16313274003135271816 : Nat := 0
def PySem.W.Fast.tw5880447007136010711 : Nat := 0
def PySem.W.Fast.tw8822589952079069109 : Nat := 0
def PySem.W.Fast.tw15254757567949128778 : Nat := 0
def PySem.W.Fast.tw10270699576597374939 : Nat := 0
def PySem.W.Fast.tw7290593875591802050 : Nat := 0
def PySem.W.Fast.tw18079775438946961221 : Nat := 0
def PySem.W.Fast.tw17506112308932165869 : Nat := 0
def PySem.W.Fast.tw12695959163624151118 : Nat := 0
def PySem.W.Fast.tw6811523589389493255 : Nat := 0
def PySem.W.Fast.tw16168456545276443842 : Nat := 0
def PySem.W.Fast.tw2849325357695596976 : Nat := 0
def PySem.W.Fast.tw10189870112464165127 : Nat := 0
def PySem.W.Fast.tw3586423143535353607 : Nat := 0
def PySem.W.Fast.tw2230602155208445640 : Nat := 0
def PySem.W.Fast.tw17715156501386691548 : Nat := 0
def PySem.W.Fast.tw10874402248265947370 : Nat := 0
def PySem.W.Fast.tw8609513735712337468 : Nat := 0
def PySem.W.Fast.tw4433064298441341060 : Nat := 0
def PySem.W.Fast.tw11306043080338160784 : Nat := 0
def PySem.W.Fast.tw17618683704188772801 : Nat := 0
def PySem.W.Fast.tw15847326906051328186 : Nat := 0
def PySem.W.Fast.tw826111901714130743 : Nat := 0
def PySem.W.Fast.tw10140364914749268187 : Nat := 0
def PySem.W.Fast.tw17859385758868905341 : Nat := 0
def PySem.W.Fast.tw6213883564237702833 : Nat := 0
def PySem.W.Fast.tw15571539884100440791 : Nat := 0
def PySem.W.Fast.tw3544303465240230416 : Nat := 0
def PySem.W.Fast.tw11214331949821119567 : Nat := 0
def PySem.W.Fast.tw14184553382826012831 : Nat := 0
def PySem.W.Fast.tw10951170299073637527 : Nat := 0
def PySem.W.Fast.tw7961422093315789312 : Nat := 0
def PySem.W.Fast.tw3202541856267147315 : Nat := 0
def PySem.W.Fast.tw3937365843727570172 : Nat := 0
def PySem.W.Fast.tw5907597919279024632 : Nat := 0
def PySem.W.Fast.tw2541089344458742853 : Nat := 0
open PySem PySem.W PyProof.Rows
set_option maxRecDepth 100000 in
set_option maxHeartbeats 0 in
theorem PySem.Challenge.cw_mendweights_k39_tables_refused_holds : PySem.Challenge.rw_mendweights_k39_tables_refused.Holds := by
  w_on; o_law; k_head; (case hw => w_witness2)
  k_fill
  refine L2.walkLaw (l := PySem.Challenge.rw_mendweights_k39_tables_refused) (k := 7) (x := "_law_script") rfl rfl ⟨rfl, by decide, by decide⟩ (fun w h Y => PySem.W.kIn_of Y) ?F
  case F =>
    intro w mg fa h KX G hmg
    have T : L2.Txt Mw.BN mg := by
      refine' L2.txt_cons KX G ?z1 (L2.txt_cons KX G ?z2 (L2.txt_cons KX G ?z3 (L2.txt_cons KX G ?z4 (L2.txt_cons KX G ?z5 (L2.txt_cons KX G ?z6 (L2.txt_cons KX G ?z7 (L2.txt_cons KX G ?z8 (L2.txt_cons KX G ?z9 (L2.txt_cons KX G ?z10 (L2.txt_cons KX G ?z11 (L2.txt_cons KX G ?z12 (L2.txt_cons KX G ?z13 (L2.txt_cons KX G ?z14 L2.txt_nil)))))))))))))
      (case z1 => k_is); (case z2 => k_is); (case z3 => k_is); (case z4 => k_is); (case z5 => k_is); (case z6 => k_is); (case z7 => k_is); (case z8 => k_is); (case z9 => k_is); (case z10 => k_is); (case z11 => k_is); (case z12 => k_is); (case z13 => k_is); (case z14 => k_is)
    obtain ⟨X_MendError, X_NoFraction, X_NoSide, X_NoTable, X_OneSide, X_NoPoint, X_NoRow, X_NoText, X_NotParted, X_TooMany, X_WrongBook, PR⟩ : ∃ X_MendError X_NoFraction X_NoSide X_NoTable X_OneSide X_NoPoint X_NoRow X_NoText X_NotParted X_TooMany X_WrongBook, Mw.Prog (L2.KOf KX) mg X_MendError X_NoFraction X_NoSide X_NoTable X_OneSide X_NoPoint X_NoRow X_NoText X_NotParted X_TooMany X_WrongBook := by
      dsimp only [L2.KOf]
      refine' ⟨_, _, _, _, _, _, _, _, _, _, _, ⟨⟨⟨?z9⟩, PySem.W.mg_of KX G ?z8⟩, ⟨⟨?z11⟩, PySem.W.mg_of KX G ?z10⟩, ⟨⟨?z13⟩, PySem.W.mg_of KX G ?z12⟩, ⟨⟨?z15⟩, PySem.W.mg_of KX G ?z14⟩, ⟨⟨?z17⟩, PySem.W.mg_of KX G ?z16⟩, ⟨PySem.W.mg_of KX G ?z18⟩, ⟨PySem.W.mg_of KX G ?z19⟩, ⟨PySem.W.mg_of KX G ?z20⟩, ⟨PySem.W.mg_of KX G ?z21⟩, ⟨PySem.W.mg_of KX G ?z22⟩, ⟨PySem.W.mg_of KX G ?z23⟩, ⟨?z60, ?z61, ?z62, ?z63, ?z64, ?z65, ?z66⟩, ?z67, ?z68, ?z69, ?z70, ?z71, ?z72, ?z73, ?z74, ?z75, ?z76, ?z77, ?z98⟩⟩
      (case z8 => k_is)
      (case z9 => k_exc)
      (case z10 => k_is)
      (case z11 => k_exc)
      (case z12 => k_is)
      (case z13 => k_exc)
      (case z14 => k_is)
      (case z15 => k_exc)
      (case z16 => k_is)
      (case z17 => k_exc)
      (case z18 => k_is)
      (case z19 => k_is)
      (case z20 => k_is)
      (case z21 => k_is)
      (case z22 => k_is)
      (case z23 => k_is)
      (case z60 => k_is)
      (case z61 => k_is)
      (case z62 => k_is)
      (case z63 => k_is)
      (case z64 => k_is)
      (case z65 => k_is)
      (case z66 => k_is)
      (case z67 => kit_is)
      (case z68 => kit_is)
      (case z69 => kit_is)
      (case z70 => kit_is)
      (case z71 => kit_is)
      (case z72 => kit_is)
      (case z73 => kit_is)
      (case z74 => kit_is)
      (case z75 => kit_is)
      (case z76 => kit_is)
      (case z77 => kit_is)
      (case z98 => kts_exm)
    have TBe : ∃ aT, Mw.TabM (L2.KOf KX) mg aT := by
      dsimp only [L2.KOf]
      refine' ⟨_, ⟨PySem.W.mg_of KX G ?z1, L2.tabI_of ?z3 ?z2 ?z4⟩⟩
      (case z1 => k_is)
      (case z2 => k_is)
      (case z3 => decide)
      (case z4 => exact ⟨⟨_, rfl⟩, ⟨_, rfl⟩, rfl, ⟨_, rfl⟩, ⟨_, rfl⟩, rfl, ⟨_, rfl⟩, ⟨_, rfl⟩, rfl, ⟨_, rfl⟩, ⟨_, rfl⟩, rfl, trivial⟩)
    obtain ⟨aT, TB⟩ := TBe
    have d44 : L2.DefAt (L2.KOf KX) "parting" (Mw.top 44) := by dsimp only [L2.KOf]; refine' L2.defAt ?a ?l ?c ?k; (case a => k_is); (case l => k_is); (case c => k_is); (case k => k_is)
    have d45 : L2.DefAt (L2.KOf KX) "sides_mixture" (Mw.top 45) := by dsimp only [L2.KOf]; refine' L2.defAt ?a ?l ?c ?k; (case a => k_is); (case l => k_is); (case c => k_is); (case k => k_is)
    have d48 : L2.DefAt (L2.KOf KX) "inputs_of" (Mw.top 48) := by dsimp only [L2.KOf]; refine' L2.defAt ?a ?l ?c ?k; (case a => k_is); (case l => k_is); (case c => k_is); (case k => k_is)
    have d49 : L2.DefAt (L2.KOf KX) "places_of" (Mw.top 49) := by dsimp only [L2.KOf]; refine' L2.defAt ?a ?l ?c ?k; (case a => k_is); (case l => k_is); (case c => k_is); (case k => k_is)
    have d50 : L2.DefAt (L2.KOf KX) "rows_of" (Mw.top 50) := by dsimp only [L2.KOf]; refine' L2.defAt ?a ?l ?c ?k; (case a => k_is); (case l => k_is); (case c => k_is); (case k => k_is)
    have d51 : L2.DefAt (L2.KOf KX) "table_weights" (Mw.top 51) := by dsimp only [L2.KOf]; refine' L2.defAt ?a ?l ?c ?k; (case a => k_is); (case l => k_is); (case c => k_is); (case k => k_is)
    have d52 : L2.DefAt (L2.KOf KX) "table_mixture" (Mw.top 52) := by dsimp only [L2.KOf]; refine' L2.defAt ?a ?l ?c ?k; (case a => k_is); (case l => k_is); (case c => k_is); (case k => k_is)
    have d53 : L2.DefAt (L2.KOf KX) "way_of" (Mw.top 53) := by dsimp only [L2.KOf]; refine' L2.defAt ?a ?l ?c ?k; (case a => k_is); (case l => k_is); (case c => k_is); (case k => k_is)
    have d54 : L2.DefAt (L2.KOf KX) "ways_of" (Mw.top 54) := by dsimp only [L2.KOf]; refine' L2.defAt ?a ?l ?c ?k; (case a => k_is); (case l => k_is); (case c => k_is); (case k => k_is)
    have d57 : L2.DefAt (L2.KOf KX) "_law_mixed" (Mw.top 57) := by dsimp only [L2.KOf]; refine' L2.defAt ?a ?l ?c ?k; (case a => k_is); (case l => k_is); (case c => k_is); (case k => k_is)
    have d58 : L2.DefAt (L2.KOf KX) "_law_drawn" (Mw.top 58) := by dsimp only [L2.KOf]; refine' L2.defAt ?a ?l ?c ?k; (case a => k_is); (case l => k_is); (case c => k_is); (case k => k_is)
    have d59 : L2.DefAt (L2.KOf KX) "_law_ask" (Mw.top 59) := by dsimp only [L2.KOf]; refine' L2.defAt ?a ?l ?c ?k; (case a => k_is); (case l => k_is); (case c => k_is); (case k => k_is)
    have d60 : L2.DefAt (L2.KOf KX) "_law_class" (Mw.top 60) := by dsimp only [L2.KOf]; refine' L2.defAt ?a ?l ?c ?k; (case a => k_is); (case l => k_is); (case c => k_is); (case k => k_is)
    have d61 : L2.DefAt (L2.KOf KX) "_law_refused" (Mw.top 61) := by dsimp only [L2.KOf]; refine' L2.defAt ?a ?l ?c ?k; (case a => k_is); (case l => k_is); (case c => k_is); (case k => k_is)
    have d62 : L2.DefAt (L2.KOf KX) "law" (Mw.top 62) := by dsimp only [L2.KOf]; refine' L2.defAt ?a ?l ?c ?k; (case a => k_is); (case l => k_is); (case c => k_is); (case k => k_is)
    refine d62.law KX G hmg (fun _ _ _ _ _ _ => L2.len1 fun _ => rfl) fun f fd base F kb nb => ?_
    have c44 := d44.cal (P := PySem.Challenge.rw_mendweights_k39_tables_refused.prog) (w := w) (base := base) (ps := ["rows"]) KX G (fun _ _ _ _ _ _ => L2.len1 fun _ => rfl) fun f fd F => Mw.ok_parting F T 
    have c45 := d45.cal (P := PySem.Challenge.rw_mendweights_k39_tables_refused.prog) (w := w) (base := base) (ps := ["rows"]) KX G (fun _ _ _ _ _ _ => L2.len1 fun _ => rfl) fun f fd F => Mw.ok_sides_mixture F T 
    have c48 := d48.calX (P := PySem.Challenge.rw_mendweights_k39_tables_refused.prog) (w := w) (base := base) (ps := ["truths"]) KX G (fun _ _ _ _ _ _ => L2.len1 fun _ => rfl) fun f fd F => Mw.ok_inputs_of F T PR TB
    have c49 := d49.cal (P := PySem.Challenge.rw_mendweights_k39_tables_refused.prog) (w := w) (base := base) (ps := ["inputs"]) KX G (fun _ _ _ _ _ _ => L2.len1 fun _ => rfl) fun f fd F => Mw.ok_places_of F T 
    have c50 := d50.calX (P := PySem.Challenge.rw_mendweights_k39_tables_refused.prog) (w := w) (base := base) (ps := ["truths"]) KX G (fun _ _ _ _ _ _ => L2.len1 fun _ => rfl) fun f fd F => Mw.ok_rows_of F T c48 c49
    have c51 := d51.calX (P := PySem.Challenge.rw_mendweights_k39_tables_refused.prog) (w := w) (base := base) (ps := ["truths"]) KX G (fun _ _ _ _ _ _ => L2.len1 fun _ => rfl) fun f fd F => Mw.ok_table_weights F T c50 c44
    have c52 := d52.calX (P := PySem.Challenge.rw_mendweights_k39_tables_refused.prog) (w := w) (base := base) (ps := ["truths"]) KX G (fun _ _ _ _ _ _ => L2.len1 fun _ => rfl) fun f fd F => Mw.ok_table_mixture F T c50 c44 c45
    have c53 := d53.cal (P := PySem.Challenge.rw_mendweights_k39_tables_refused.prog) (w := w) (base := base) (ps := ["truths", "step"]) KX G (fun _ _ _ _ _ _ => L2.len2 fun _ _ => rfl) fun f fd F => Mw.ok_way_of F T 
    have c54 := d54.calX (P := PySem.Challenge.rw_mendweights_k39_tables_refused.prog) (w := w) (base := base) (ps := ["truths"]) KX G (fun _ _ _ _ _ _ => L2.len1 fun _ => rfl) fun f fd F => Mw.ok_ways_of F T c48 c53
    have c57 := d57.cal (P := PySem.Challenge.rw_mendweights_k39_tables_refused.prog) (w := w) (base := base) (ps := ["_law_cell", "_law_k"]) KX G (fun _ _ _ _ _ _ => L2.len2 fun _ _ => rfl) fun f fd F => Mw.ok__law_mixed F T 
    have c58 := d58.cal (P := PySem.Challenge.rw_mendweights_k39_tables_refused.prog) (w := w) (base := base) (ps := ["_law_cell", "_law_base", "_law_many"]) KX G (fun _ _ _ _ _ _ => L2.len3 fun _ _ _ => rfl) fun f fd F => Mw.ok__law_drawn F T c57
    have c59 := d59.calX (P := PySem.Challenge.rw_mendweights_k39_tables_refused.prog) (w := w) (base := base) (ps := ["_law_truths", "_law_way"]) KX G (fun _ _ _ _ _ _ => L2.len2 fun _ _ => rfl) fun f fd F => Mw.ok__law_ask F T c50 c51 c52 c54
    have c60 := d60.cal (P := PySem.Challenge.rw_mendweights_k39_tables_refused.prog) (w := w) (base := base) (ps := ["_law_caught"]) KX G (fun _ _ _ _ _ _ => L2.len1 fun _ => rfl) fun f fd F => Mw.ok__law_class F T PR
    have c61 := d61.cal (P := PySem.Challenge.rw_mendweights_k39_tables_refused.prog) (w := w) (base := base) (ps := ["_law_truths", "_law_way"]) KX G (fun _ _ _ _ _ _ => L2.len2 fun _ _ => rfl) fun f fd F => Mw.ok__law_refused F T PR c59 c60
    exact Mw.ok_law F T c50 c57 c58 c61
